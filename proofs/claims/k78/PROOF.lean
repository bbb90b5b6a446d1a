import PyProof.Rows.All
import Wide.All
import OpenK.AllK
import Wide.FinOn
import Lean
import PyProof.EqAt
import PyProof.EqKinds
import PyProof.TupleCall
import PyProof.NeKinds
import KE.KDictOf
import PyProof.AttrMissHeap
import PyProof.WalksMore
import PyProof.MeetsDict
import KE.KDictList
import KE.KRevIter
import PyProof.DictItemsLoops
import PyProof.DictWalks
import KE.KSortTup
import KE.KDictSum
import PyProof.SumAny
import PyProof.Conv_int_bool
import PyProof.Conv_int
import KE.KRevSl
import PyProof.MeetsStr
import PyProof.StrCalls3
import PyProof.Rows.TupDisplay
import PySem.Challenge.RW_copymeet_k78_whole_settled_for_good
open PySem renaming wpAny_bind->aa,wpAny_pure->ae,sizeLine->aw,starEach->bu,mainGlobals->cg,sizeLine_eq->cx,Spec->c4,FuncData->c5,wpAny_holding->c6,compareOp->c9,cellsFrom->ee,wpAny_newObj_type->fm,binaryOp->fv,sysModules->f6,codeAny_builtin->ib,wpAny_mono->ix,wpAny_truthy_bool->iz,wpAny_typeNameOfWhole_valiter->i9,wpAny_callSpecial?_slot->jc,plainId_quiet->jd,SetTable->je,foldedSetIterable->ji,assignEach->jo,wpAny_call_entry->jq,wpAny_Call_Name_kw->jr,wpAny_typeOf->ju,call_meetsIn->jy,wpAny_notOrdered_dict->j3,wpAny_rule->j9,wpAny_typeNameOf_valiter->kg,wpAny_pyIter_list->kh,ofAClassStatement->kj,wpAny_setState_of->km,mem_of_lookup->k4,wpAny_of_eq->k9,wpAny_forIn_list->lj,wpAny_seqItems->lx,NameKind->l8,tupleKind_room_in1->l9,wpAny_specialOf->m5,wpAny_dictEntries->nc,wpAny_tryCatch->n5,dictSetDefault->n6,wpAny_isInstance->oa,bootBuiltins->og
open List renaming getElem?_eq_some_iff->ab,length_map->af,mem_cons_self->ai,mem_cons_of_mem->aj,mem_append_right->ao,mem_map->aq,size_toArray->ar,getElem?_map->au,range->av,mem_filter->ay,prefix_rfl->az,map_cons->a8,mem_cons->ba,mem_singleton->bf,getElem?_set_ne->bg,mem_append->bh,all_eq_true->bz,lookup_cons->cf,replicate->cj,mem_of_getElem?->cq,map_map->cu,map_append->c7,prefix_append->c8,length_cons->dg,pairwise_cons->dh,filterMap_cons->dj,getElem_mem->dr,pairwise_map->dt,getElem?_append_left->d4,mem_iff_getElem?->d7,map_congr_left->d8,filter_sublist->d9,length_take->eu,mem_range->e8,length_append->fg,length_filter_le->fh,filter_cons->fi,take_add_one->fq,getElem?_append_right->ft,pairwise_iff_getElem->f7,mem_or_eq_of_mem_set->gg,getElem?_eq_getElem->gx,nodup_cons->gz,getElem?_cons_succ->g7,mem_append_left->ij,pairwise_append->ik,getD_eq_getElem?_getD->ip,perm_ext_iff_of_nodup->iq,getElem?_set_self->ir,ext_getElem?->i3,length_set->i5,take_length->ja,pairwise_singleton->jf,length_range->jj,nodup_append->jk,find?_cons->jl,all_cons->jw,getElem?_eq_none_iff->j5,drop_eq_getElem_cons->j6,idxOf_lt_length_iff->ki,toArray->ku,any_cons->k6,length_pos_iff->lg,take_of_length_le->l0,set_cons_succ->my,getElem?_eq_none->m9,mem_of_getLast?->n0,drop_length->oe,append_nil->oj,foldl_cons->ou,sum_cons->o5
open PySem.Heap renaming get?_push_of_some->ag,lt_size->ax,get?_push_size->a7,SameBut->gq,get?_update_self->jv,get?_push_ne->ka,get?_update_ne->k7,size_push->lu,size_update->n9
open PySem.W renaming Frag->ah,keepIn->bp,codeIn->b8,fnOf->b9,nsIn->de,findIn->n3,katRev->o8
open Nat renaming le_refl->ak,ne_of_lt->a9,lt_of_lt_of_le->bj,zero_le->bw,le_trans->df,lt_irrefl->gj,lt_or_eq_of_le->ia,le_of_lt->i4,le_succ_of_le->kc,lt_trans->kr
open Option renaming map_eq_some_iff->bc,isSome_some->jx
open Option.some renaming inj->bq
open Bool renaming false_ne_true->cb,false_eq_true->cm,and_eq_true->cw,eq_iff_iff->i6,beq_eq_decide_eq->m8,not_true->oq
open PySem.Value renaming none->cy,ref->c3
open PySem.Obj renaming mapSeq->cz,data_mapDictKeys->nv
open Array renaming length_toList->dk,getElem?_eq_getElem->j7,forIn_toList->mj,getElem?_eq_some_iff->nu
open PySem.Heap.SameBut renaming update->dm
open PySem.NameKind renaming free->dw,cell->om
open PySem.SetTable renaming bits->dz,fresh->f9,leap->nj,insertAt->nk,turns->n8,runEnd->ot,Probe->o9
open PyProof.Rows renaming slot_tuple_getitem->d5,get?_update_seq->jm,listUpdate_at->jz,mirror_perm->m7
open PySem.F renaming slot_dict_get->d6,slot_dict_valueiterator_next->fw,plainAttrs_dict->ig,entry_dict_get->iu,plainAttrs_list->jg,slot_list_append->kn,type_list_append->ko,plain_max_loop->ll,slot_dict_setdefault->mq,slot_tuple_hash->nh,called_set->oh
open PySem.Builtin.Tuple renaming tupleHashOf->fb,tupleExact->j8,tupleItemsOf->nq
open PySem.Around renaming under_plainId->fe
open Int renaming le_refl->ff,emod_nonneg->ic,emod_lt_of_pos->ie,le_trans->kz,toNat_natCast->ng
open PySem.Paired renaming length->fj
open List.Pairwise renaming of_map->fu,nil->o6
open Classical renaming propDecidable->g9
open PySem.SetTable.layClean renaming free->iw
open False renaming elim->iy
open List.Nodup renaming length_le_of_subset->i7
open List.Perm renaming eq_of_pairwise->i8
open PyProof.Rows.F renaming plain_set_update_loop->jh
open PySem.Str renaming ofString->jt
open PySem.Builtin.Slice renaming slicePlaces->j4,sliceAdjust->n4
open Ne renaming symm->k0
open PySem.Builtin.Dict renaming updateFrom->k8
open True renaming intro->lp
open PySem.Builtin.Dict_items renaming ownsTuple->md
open Sum renaming inr->mz
open PySem.Builtin.Str renaming strSliceIndices->m4
open Array.Perm renaming refl->m6
open Iff renaming rfl->pb
set_option Elab.async false
set_option linter.all false
set_option maxRecDepth 1000000
set_option maxHeartbeats 4000000
namespace L2
open PySem PySem.Spec PyProof.Rows
abbrev Key:=Sum Int Str
def vB:Key->Value->Bool
 |.inl k,v=>Value.isInt k v
 |.inr x,v=>Value.isStrOf x v
def Sk(w:World):Key->Int
 |.inl k=>hashInt k
 |.inr x=>hashStr w x
theorem bT:∀{k:Key}{v:Value},vB k v=true->(∃i t,k=Sum.inl i/\v=Value.int i t)\/(∃x t,k=mz x/\v=Value.str x t)
 |.inl i,v,h=>by
  obtain⟨t,e⟩:=Value.isInt_shape (k:=i) (v:=v) h;exact .inl ⟨i,t,rfl,e⟩
 |.inr x,v,h=>by
  obtain⟨t,e⟩:=Value.isStrOf_shape (x:=x) (v:=v) h;exact .inr ⟨x,t,rfl,e⟩
theorem IK(i:Int)(t:Tok):vB (.inl i) (.int i t)=true:=by simp[vB,Value.isInt]
theorem IL(x:Str)(t:Tok):vB (.inr x) (.str x t)=true:=by simp[vB,Value.isStrOf]
theorem Sl(a b:Int):decide ((Sum.inl a:Key)=Sum.inl b)=(a == b):=by
 by_cases e:a=b
 ·subst e;simp
 ·have h:¬ (Sum.inl a:Key)=Sum.inl b:=λq=>e (Sum.inl.inj q);rw[decide_eq_false h];exact(beq_eq_false_iff_ne.mpr e).symm
theorem Sm(a b:Str):decide ((mz a:Key)=mz b)=decide (a=b):=by
 by_cases e:a=b
 ·subst e;simp
 ·have h:¬ (mz a:Key)=mz b:=λq=>e (Sum.inr.inj q);rw[decide_eq_false h,decide_eq_false e]
theorem Sn(a:Int)(b:Str):decide ((Sum.inl a:Key)=mz b)=false:=decide_eq_false (λq=>nomatch q)
theorem So(a:Str)(b:Int):decide ((mz a:Key)=Sum.inl b)=false:=decide_eq_false (λq=>nomatch q)
def bL(prog:Program)(w:World):PySem.KeyKind prog w Key where
 is:=vB
 hash:=Sk w
 inj:=λv a b ha hb=>by
  rcases bT ha with⟨i,t,rfl,rfl⟩|⟨x,t,rfl,rfl⟩
  ·rcases bT hb with⟨j,u,rfl,e⟩|⟨y,u,rfl,e⟩
   ·injection e with e1 _;rw[e1]
   ·exact nomatch e
  ·rcases bT hb with⟨j,u,rfl,e⟩|⟨y,u,rfl,e⟩
   ·exact nomatch e
   ·injection e with e1 _;rw[e1]
 byValue:=λk v h=>by
  rcases bT h with⟨i,t,rfl,rfl⟩|⟨x,t,rfl,rfl⟩ <;> rfl
 pyHash:=λhv h=>by
  rcases bT hv with⟨i,t,rfl,rfl⟩|⟨x,t,rfl,rfl⟩
  ·exact wpAny_pyHash_int h
  ·exact wpAny_pyHash_str h
 eqBool:=λhu hv h=>by
  rcases bT hu with⟨i,t,rfl,rfl⟩|⟨x,t,rfl,rfl⟩
  ·rcases bT hv with⟨j,u,rfl,rfl⟩|⟨y,u,rfl,rfl⟩
   ·rw[Sl]at h;exact wpAny_eqBool_int h
   ·rw[Sn]at h;exact SeqAt.EqAt.int_str i t y u _ _ _ _ h
  ·rcases bT hv with⟨j,u,rfl,rfl⟩|⟨y,u,rfl,rfl⟩
   ·rw[So]at h;exact SeqAt.EqAt.str_int x t j u _ _ _ _ h
   ·rw[Sm]at h;exact wpAny_eqBool_str h
 «strs»:=λk x t v h=>by
  rcases bT h with⟨i,u,rfl,e⟩|⟨y,u,rfl,e⟩
  ·exact nomatch e
  ·injection e with e1 _;subst e1;cases v <;> rfl
theorem CC(prog:Program)(w:World)(i:Int)(t:Tok):(bL prog w).is (.inl i) (.int i t)=true:=IK i t
theorem CD(prog:Program)(w:World)(x:Str)(t:Tok):(bL prog w).is (.inr x) (.str x t)=true:=IL x t
inductive V where
 |non|bl (b:Bool)|int (i:Int)|str (x:Str)|byt (b:Array UInt8)|flt (b:UInt64)|ref (a:Addr)|ty (n:String)
 deriving DecidableEq
def RelV:V->Value->Prop
 |.non,u=>u=cy
 |.bl b,u=>u=Value.bool b
 |.int i,u=>∃t,u=Value.int i t
 |.str x,u=>∃t,u=Value.str x t
 |.byt b,u=>∃t,u=Value.bytes b t
 |.flt b,u=>∃t,u=Value.float b t
 |.ref a,u=>u=c3 a
 |.ty n,u=>u=Value.type n
abbrev aO:List V->List Value->Prop:=Paired RelV
theorem aO.length{xs:List V}{us:List Value}(r:aO xs us):xs.length=us.length:=fj r
theorem aO.get:∀{xs:List V}{us:List Value}{i:Nat}{x:V},aO xs us->xs[i]?=some x->∃u,us[i]?=some u/\RelV x u
 |_,_,_,_,.nil,e=>by simp at e
 |_,_,0,_,.cons r _,e=>by simp at e;subst e;exact⟨_,rfl,r⟩
 |_,_,i+1,x,.cons _ t,e=>by
  obtain⟨u,h1,h2⟩:=aO.get (i:=i) (x:=x) t (by simpa using e)
  exact⟨u,by simpa using h1,h2⟩
theorem aO.set{x:V}{u:Value}(r:RelV x u):∀{xs:List V}{us:List Value}(i:Nat),aO xs us->aO (xs.set i x) (us.set i u)
 |_,_,_,.nil=>.nil
 |_,_,0,.cons _ t=>.cons r t
 |_,_,i+1,.cons q t=>.cons q (aO.set r i t)
theorem aO.append:∀{xs ys:List V}{us ws:List Value},aO xs us->aO ys ws->aO (xs++ys) (us++ws)
 |_,_,_,_,.nil,s=>s
 |_,_,_,_,.cons r t,s=>.cons r (aO.append t s)
theorem aO.take:∀{xs:List V}{us:List Value}(n:Nat),aO xs us->aO (xs.take n) (us.take n)
 |_,_,0,_=>.nil
 |_,_,_+1,.nil=>.nil
 |_,_,n+1,.cons r t=>.cons r (aO.take n t)
theorem aO.drop:∀{xs:List V}{us:List Value}(n:Nat),aO xs us->aO (xs.drop n) (us.drop n)
 |_,_,0,r=>r
 |_,_,_+1,.nil=>.nil
 |_,_,n+1,.cons _ t=>aO.drop n t
def uK:Option V->Option Value->Prop
 |some v,some u=>RelV v u
 |none,none=>True
 |_,_=>False
def KV{κ:Type}:List (κ×V)->List (κ×Value)->Prop:=Paired λ(p:κ×V)(q:κ×Value)=>p.1=q.1/\RelV p.2 q.2
def kV:Key->V
 |.inl i=>.int i
 |.inr x=>.str x
inductive HO where
 /-- a list -/
 |lst (xs:List V)
 /-- a tuple (never changes) -/
 |tup (xs:List V)
 /-- a dict whose keys are ints and texts;one whose keys are tuples of ints and texts (the empty one is both) -/
 |dK (kvs:List (Key×V))|dT (kvs:List (List Key×V))
 /-- a set of ints: its members,its size -/
 |set (S:Int->Bool) (n:Nat)
 /-- an instance of the class at C,its dict at dx,its attributes -/
 |ins (C dx:Addr) (fs:List (Str×V))
 /-- the dict of the instance at x -/
 |own (x:Addr)
 /-- the dict of an exception -/
 |xd (fs:List (Str×V))
 /-- a bound method,f of x -/
 |met (f x:Addr)
 /-- a range object lo,lo+1,.. below hi -/
 |rng (lo hi:Int)
 /-- a thing that is known to the object (the script;a dict while a loop walks it): read,never written while it is so -/
 |frz (o:Obj) (u:HO)
 /-- a code object's table -/
 |tbl (ps:Array Value)
 /-- any other thing,by what is true of its one object (a def of one's own: SetO a S n:=HO.ext λh=>..) -/
 |ext (φ:Heap->Prop)
abbrev Hp:=Addr->Option HO
def upd(H:Hp)(a:Addr)(o:HO):Hp:=λb=>if b=a then some o else H b
theorem bF{H:Hp}{a:Addr}{o:HO}:upd H a o a=some o:=by unfold upd;rw[if_pos rfl]
theorem bG{H:Hp}{a b:Addr}{o:HO}(h:b≠a):upd H a o b=H b:=by unfold upd;rw[if_neg h]
theorem V6{H:Hp}{a b:Addr}{o u:HO}(h:H a=some o)(h':H b=some u)(d:o≠u):a≠b:=by
 intro e;subst e;rw[h]at h';exact d (bq h')
theorem cM{H:Hp}{a b:Addr}{o:HO}(h:H a=some o)(h':H b=none):a≠b:=by
 intro e;subst e;rw[h]at h';cases h'
def oX(h:Heap)(a:Addr)(items:Array Value):Prop:=∃o,h.get? a=some o/\o.cls=.type "tuple" /\ (∃n,o.data=.seq items n)/\o.dict=none
theorem oX.is{h:Heap}{a:Addr}{items:Array Value}(x:oX h a items):PyProof.Rows.IsTup h a items:=let ⟨o,h1,h2,h3,_⟩:=x;⟨o,h1,h2,h3⟩
theorem oX.lt{h:Heap}{a:Addr}{items:Array Value}(x:oX h a items):a<h.objs.size:=let ⟨_,h1,_⟩:=x;ax h1
theorem oX.new(h:Heap)(items:Array Value):oX (h.push { cls:=.type "tuple",data:=.seq items 0 }) h.objs.size items:=⟨_,a7 _ rfl,rfl,⟨_,rfl⟩,rfl⟩
section
variable(P:Program)(w:World)
def cK(H:Hp)(h:Heap)(a:Addr):HO->Prop
 |.lst xs=>xs.length<=aw/\∃(its:List Value)(n:Nat),aO xs its/\h.get? a=some { cls:=.type "list",data:=.seq its.toArray n }
 |.tup xs=>xs.length<=aw/\∃its:List Value,aO xs its/\oX h a its.toArray
 |.dK kvs=>kvs.length<=aw/\(a == f6)=false/\∃vs,KV kvs vs/\h.DictOf (bL P w) a vs
 | .dT kvs=>kvs.length<=aw/\(a == f6)=false/\∃ xs:List (List Key×Addr×Value),
   Paired (λ(p:List Key×V)(q:List Key×Addr×Value)=>p.1=q.1/\H q.2.1=some (.tup (p.1.map kV))/\RelV p.2 q.2.2) kvs xs/\
   ∃o es ep,h.get? a=some o/\o.ExactDict/\o.data=.dict es ep/\es.toList=xs.map (entryOfKey (tupleKind (bL P w)))/\(xs.map (·.1)).Nodup
 |.set S n=>h.SetOf (intKind P w) a S n
 | .ins C dx fs=>H dx=some (.own a)/\fs.length<=1000/\dx≠a/\h.get? a=some (PySem.W.instObj C dx)/\
   ∃mA,h.Ns1 dx mA/\(∀f,uK (fs.lookup f) (mA f))/\PySem.Within mA (fs.map (·.1))
 |.own _=>∃o,h.get? a=some o
 |.xd fs=>∃mA,h.Ns1 a mA/\∀f,uK (fs.lookup f) (mA f)
 |.rng lo hi=>∃t u v,h.get? a=some { cls:=.type "range",data:=.fields #[.int lo t,.int hi u,.int 1 v] }
 |.frz o u=>h.get? a=some o/\cK H h a u
 |.tbl ps=>h.get? a=some { cls:=.none,data:=.fields ps }
 |.met f x=>h.get? a=some (PySem.W.methodObj (.ref f) (.ref x))
 |.ext φ=>φ h/\(∃o,h.get? a=some o)/\∀h1 h2:Heap,φ h1->(∀o,h1.get? a=some o->h2.get? a=some o)->φ h2
def HOk(H:Hp)(h:Heap):Prop:=∀a o,H a=some o->cK P w H h a o
end
section
variable{P:Program}{w:World}{H H':Hp}{h h':Heap}{a:Addr}{o:HO}
theorem cK.lt(x:cK P w H h a o):a<h.objs.size:=by
 cases o with
 |lst xs=>obtain⟨_,_,_,_,e⟩:=x;exact ax e
 |tup xs=>obtain⟨_,_,_,p⟩:=x;exact oX.lt p
 |dK kvs=>obtain⟨_,_,_,_,o,_,_,e,_⟩:=x;exact ax e
 |dT kvs=>obtain⟨_,_,_,_,o,_,_,e,_⟩:=x;exact ax e
 |set S n=>obtain⟨o,_,_,_,e,_⟩:=x;exact ax e
 |ins C dx fs=>obtain⟨_,_,_,e,_⟩:=x;exact ax e
 |own y=>obtain⟨_,e⟩:=x;exact ax e
 |xd fs=>obtain⟨_,⟨_,_,_,e,_⟩,_⟩:=x;exact ax e
 |rng lo hi=>obtain⟨_,_,_,e⟩:=x;exact ax e
 |frz ob u=>obtain⟨e,_⟩:=x;exact ax e
 |tbl ps=>exact ax (show h.get? a=some _ from x)
 |met f y=>exact ax (show h.get? a=some _ from x)
 |ext φ=>obtain⟨_,⟨_,e⟩,_⟩:=x;exact ax e
theorem Paired.mapP{α β:Type}{F G:α->β->Prop}:∀{l₁:List α}{l₂:List β},Paired F l₁ l₂->(∀a b,F a b->G a b)->Paired G l₁ l₂
 |_,_,.nil,_=>.nil
 |_,_,.cons r t,f=>.cons (f _ _ r) (Paired.mapP t f)
theorem cK.stay(x:cK P w H h a o)(k:∀b u,(b=a\/H b=some (.own a))->h.get? b=some u->h'.get? b=some u)
  (ho:∀b,H b=some (.own a)->H' b=some (.own a)) (ht:∀b xs,H b=some (.tup xs)->H' b=some (.tup xs)):cK P w H' h' a o:=by
 induction o with
 |lst xs=>obtain⟨z,its,n,r,e⟩:=x;exact⟨z,its,n,r,k _ _ (.inl rfl) e⟩
 |tup xs=>obtain⟨z,its,r,ob,e,c⟩:=x;exact⟨z,its,r,ob,k _ _ (.inl rfl) e,c⟩
 |dK kvs=>obtain⟨z,y,vs,r,ob,es,ep,e,c⟩:=x;exact⟨z,y,vs,r,ob,es,ep,k _ _ (.inl rfl) e,c⟩
 |dT kvs=>
  obtain⟨z,y,xs,r,ob,es,ep,e,c⟩:=x;exact⟨z,y,xs,Paired.mapP r λp q z=>⟨z.1,ht _ _ z.2.1,z.2.2⟩,ob,es,ep,k _ _ (.inl rfl) e,c⟩
 |set S n=>obtain⟨ob,es,ep,t,e,c⟩:=x;exact⟨ob,es,ep,t,k _ _ (.inl rfl) e,c⟩
 |ins C dx fs=>
  obtain⟨d,z,ne,e,mA,⟨od,es,ep,e2,c⟩,r⟩:=x;exact⟨ho _ d,z,ne,k _ _ (.inl rfl) e,mA,⟨od,es,ep,k _ _ (.inr d) e2,c⟩,r⟩
 |own y=>obtain⟨ob,e⟩:=x;exact⟨ob,k _ _ (.inl rfl) e⟩
 |xd fs=>obtain⟨mA,⟨od,es,ep,e,c⟩,r⟩:=x;exact⟨mA,⟨od,es,ep,k _ _ (.inl rfl) e,c⟩,r⟩
 |rng lo hi=>obtain⟨t,u,v,e⟩:=x;exact⟨t,u,v,k _ _ (.inl rfl) e⟩
 |frz ob u ih=>obtain⟨e,q⟩:=x;exact⟨k _ _ (.inl rfl) e,ih q⟩
 |tbl ps=>
  have e:h.get? a=some { cls:=.none,data:=.fields ps }:=x
  show h'.get? a=some { cls:=.none,data:=.fields ps }
  exact k a _ (.inl rfl) e
 |met f y=>
  have e:h.get? a=some (PySem.W.methodObj (.ref f) (.ref y)):=x
  show h'.get? a=some (PySem.W.methodObj (.ref f) (.ref y))
  exact k a _ (.inl rfl) e
 |ext φ=>obtain⟨p,⟨o,e⟩,st⟩:=x;exact⟨st _ _ p λo q=>k _ _ (.inl rfl) q,⟨o,k _ _ (.inl rfl) e⟩,st⟩
theorem HOk.lt(x:HOk P w H h)(e:H a=some o):a<h.objs.size:=(x a o e).lt
theorem HOk.fresh(x:HOk P w H h)(e:h.objs.size<=a):H a=none:=by
 cases q:H a with
 |none=>rfl
 |some u=>exact absurd (bj (x.lt q) e) (gj _)
theorem HOk.kept(x:HOk P w H h)(k:∀b u,h.get? b=some u->h'.get? b=some u):HOk P w H h':=λa o e=>
 (x a o e).stay (λb u _ q=>k b u q) (λ_ q=>q) λ_ _ q=>q
theorem HOk.laid(x:HOk P w H h)(k:∀b u,h.get? b=some u->h'.get? b=some u)(hp:h.objs.size<=a)(new:cK P w (upd H a o) h' a o):HOk P w (upd H a o) h':=λb u e=>by
 have hn:=x.fresh hp
 by_cases hb:b=a
 ·subst hb;rw[bF]at e;cases e;exact new
 ·rw[bG hb]at e;exact(x b u e).stay (λc v _ q=>k c v q) (λc q=>by rw[bG (cM q hn)];exact q) λc xs q=>by rw[bG (cM q hn)];exact q
end
def Rd(H:Hp)(a:Addr)(u:HO):Prop:=H a=some u\/∃o,H a=some (.frz o u)
theorem Rd.ok{P:Program}{w:World}{H:Hp}{h:Heap}{a:Addr}{u:HO}(r:Rd H a u)(x:HOk P w H h):cK P w H h a u:=by
 rcases r with r|⟨o,r⟩
 ·exact x a u r
 ·obtain⟨_,q⟩:=x a _ r;exact q
def Mut:Option HO->Prop
 |some (.lst _)=>True
 |some (.dK _)=>True
 |some (.dT _)=>True
 |some (.set _ _)=>True
 |some (.ins _ _ _)=>True
 |some (.ext _)=>True
 |_=>False
section
variable{P:Program}{w:World}{H:Hp}{h h':Heap}{x e:Addr}{o':HO}
theorem HOk.write(ok:HOk P w H h)(mu:Mut (H x))(he:e=x\/H e=some (.own x))(k:∀b u,b≠e->h.get? b=some u->h'.get? b=some u)(heo:∃u,h'.get? e=some u)
  (new:cK P w (upd H x o') h' x o'):HOk P w (upd H x o') h':=λb u q=>by
 have nown:∀c y,H c=some (.own y)->c≠x:=λc y r z=>by subst z;rw[r]at mu;exact mu
 have ntup:∀c xs,H c=some (.tup xs)->c≠x:=λc xs r z=>by subst z;rw[r]at mu;exact mu
 by_cases hb:b=x
 ·subst hb;rw[bF]at q;cases q;exact new
 ·rw[bG hb]at q
  by_cases hbe:b=e
  ·have q':H b=some (.own x):=by
    rcases he with z|z
    ·exact absurd (hbe.trans z) hb
    ·rw[hbe];exact z
   rw[q]at q';cases q';obtain⟨v,hv⟩:=heo;exact⟨v,by rw[hbe];exact hv⟩
  ·refine(ok b u q).stay (λc v hc r=>k c v ?_ r) (λc r=>by rw[bG (nown c b r)];exact r) λc xs r=>by rw[bG (ntup c xs r)];exact r
   rcases hc with rfl|hc
   ·exact hbe
   ·rintro rfl;rcases he with z|z
    ·exact nown c b hc z
    ·rw[hc]at z;cases z;exact hb rfl
end
structure Un(fs ex:List Addr)(H H':Hp)(h h':Heap):Prop where
 keep:∀b o,h.get? b=some o->H b=none->b∉fs->b∉ex->h'.get? b=some o
 slot:∀b o,h.get? b=some o->H b=none->b∈fs->b∉ex->∃sl,h'.get? b=some { o with slots:=sl }
 free:∀b o,h.get? b=some o->H b=none->b∉ex->H' b=none
 there:∀b o,h.get? b=some o->b∉ex->∃o',h'.get? b=some o'
 tups:∀b xs,H b=some (.tup xs)->H' b=some (.tup xs)
 frzs:∀b o u,H b=some (.frz o u)->H' b=some (.frz o u)
 tbls:∀b ps,H b=some (.tbl ps)->∃more,H' b=some (.tbl (ps++more))
section
variable{fs fs' ex ex':List Addr}{H H1 H2:Hp}{h h1 h2 h':Heap}{a x e:Addr}{o:HO}
theorem Un.any(u:Un fs ex H H1 h h1){b:Addr}{ob:Obj}(q:h.get? b=some ob)(n:H b=none)(hx:b∉ex):∃sl,h1.get? b=some { ob with slots:=sl }:=by
 by_cases hb:b∈fs
 ·exact u.slot b ob q n hb hx
 ·exact⟨ob.slots,u.keep b ob q n hb hx⟩
theorem Un.kept(k:∀b u,h.get? b=some u->h'.get? b=some u):Un fs ex H H h h':=
 ⟨λb ob q _ _ _=>k b ob q,λb ob q _ _ _=>⟨ob.slots,k b ob q⟩,λ_ _ _ n _=>n,λb ob q _=>⟨ob,k b ob q⟩,λ_ _ q=>q,λ_ _ _ q=>q,λ_ ps q=>⟨#[],by rw[q];simp⟩⟩
theorem Un.refl:Un fs ex H H h h:=Un.kept λ_ _ q=>q
theorem Un.laid(k:∀b u,h.get? b=some u->h'.get? b=some u)(hp:h.objs.size<=a)(hn:H a=none):Un fs ex H (upd H a o) h h' where
 keep:=λb u q _ _ _=>k b u q
 slot:=λb u q _ _ _=>⟨u.slots,k b u q⟩
 free:=λb u q n _=>by rw[bG (a9 (bj (ax q) hp))];exact n
 there:=λb u q _=>⟨u,k b u q⟩
 tups:=λb xs q=>by rw[bG (cM q hn)];exact q
 frzs:=λb u xs q=>by rw[bG (cM q hn)];exact q
 tbls:=λb ps q=>⟨#[],by rw[bG (cM q hn),q];simp⟩
theorem Un.write(mu:Mut (H x))(he:e=x\/H e=some (.own x))(k:∀b u,b≠e->h.get? b=some u->h'.get? b=some u)(heo:∃u,h'.get? e=some u):Un fs ex H (upd H x o) h h':=by
 have hx:∀b,H b=none->b≠x:=λb n z=>by subst z;rw[n]at mu;exact mu
 have hb:∀b,H b=none->b≠e:=λb n z=>by
  subst z;rcases he with r|r
  ·exact hx b n r
  ·rw[n]at r;cases r
 have hm:∀b u,H b=some u->¬ Mut (some u)->b≠x:=λb u q nm z=>by subst z;rw[q]at mu;exact nm mu
 refine⟨λb u q n _ _=>k b u (hb b n) q,λb u q n _ _=>⟨u.slots,k b u (hb b n) q⟩,λb u q n _=>by rw[bG (hx b n)];exact n,λb u q _=>?_,
  λb xs q=>by rw[bG (hm b _ q λz=>z)];exact q,λb u xs q=>by rw[bG (hm b _ q λz=>z)];exact q,λb ps q=>⟨#[],by rw[bG (hm b _ q λz=>z),q];simp⟩⟩
 by_cases hbe:b=e
 ·subst hbe;exact heo
 ·exact⟨u,k b u hbe q⟩
end
def trk(h:Heap)(H:Hp):List Addr:=(av h.objs.size).filter λa=>(H a).isSome
def B3(h:Heap)(H:Hp):Heap:=PySem.W.hideAll h (trk h H)
theorem IM(h:Heap)(H:Hp):(B3 h H).objs.size=h.objs.size:=PySem.W.hideAll_size _ _
theorem KU{h:Heap}{H:Hp}{b:Addr}{o:Obj}(e:h.get? b=some o)(n:H b=none):(B3 h H).get? b=some o:=
 PySem.W.hideAll_get _ e λhm=>by
  have q:(H b).isSome=true:=(ay.mp hm).2;rw[n]at q;simp at q
theorem OU{h:Heap}{H:Hp}{b:Addr}{o:Obj}(e:(B3 h H).get? b=some o):h.get? b=some o/\H b=none:=by
 have e':h.get? b=some o:=PySem.W.of_hideAll (trk h H) e;refine⟨e',?_⟩;cases q:H b with
 |none=>rfl
 |some x=>
  have hm:b∈trk h H:=ay.mpr ⟨e8.mpr (ax e'),by simp[q]⟩;have z:(B3 h H).get? b=none:=PySem.W.hideAll_none (trk h H) hm;rw[z]at e;cases e
def OV(g h:Heap)(L:Addr):List (Addr×Obj):=(av h.objs.size).filterMap λa=>if a=L\/(g.get? a).isSome=true then none else(h.get? a).map λo=>(a,o)
def rest(g h:Heap)(L d:Addr):List (Addr×Obj):=(OV g h L).filter λp=>decide (p.1≠d)
structure Mod(K:ah)(mg:Str->Option Value)(base:Heap):Prop where
 kin:K.In base
 glob:base.Ns cg mg
 blt:∃mb,base.Ns builtinsNs mb/\∀x:Str,x≠"__name__" -> mb x=og x
 nolimit:base.NoLimit
structure Cx where
 prog:Program
 w:World
 K:ah
 mg:Str->Option Value
 base:Heap
 A:Around
 N:List Str
 s₀:Shared
 H₀:Hp
 env:Env
 outer:List Env
 stack:List Env
 ex:List Addr
 fn:Str->Bool
 calm:Bool
 pn:List (Addr×Obj)
 xe:Value->Shared->Prop
def frs(l:List Env):List Addr:=l.filterMap (·.frame)
abbrev Cx.fs(X:Cx):List Addr:=frs X.outer
def Vis(sc:Scope)(x:Str):Prop:=sc.names.lookup x=some .local\/sc.names.lookup x=some .cell\/sc.names.lookup x=some .free
def Loc(sc:Scope)(x:Str):Prop:=sc.names.lookup x=some .local\/sc.names.lookup x=some .cell
def Look(env:Env)(h:Heap)(m:Str->Option Value)(x:Str)(u:Value):Prop:=
 (env.kindOf x=some .local/\m x=some u)\/((env.kindOf x=some .cell\/env.kindOf x=some .free)/\∃c,env.cells.lookup x=some c/\h.IsCell c (some u))
structure Cx.Ok(X:Cx):Prop where
 mod:Mod X.K X.mg X.base
 kind:X.env.scope.kind=.function
 glob:X.env.globals=cg
 blt:X.env.builtins=builtinsNs
 above:X.s₀.heap.objs.size<=X.env.locals
 inj:∀x y c,X.env.cells.lookup x=some c->X.env.cells.lookup y=some c->x=y
 has:∀x,(X.env.kindOf x=some .cell\/X.env.kindOf x=some .free)->∃c,X.env.cells.lookup x=some c
 cab:∀x c,X.fn x=true->X.env.cells.lookup x=some c->X.s₀.heap.objs.size<=c
 hd:X.calm=true->X.A.handled=none
 frames:X.A.frames=some X.stack
 stk:X.stack=X.outer\/(X.stack=X.env::X.outer/\X.env.frame=some X.env.locals)
 exf:∀b∈X.ex,b≠X.env.locals/\∀x c,X.env.cells.lookup x=some c->c≠b
 bs:∀b o,X.base.get? b=some o->X.s₀.heap.get? b=some o/\X.H₀ b=none
 bsz:X.base.objs.size<=X.s₀.heap.objs.size
 noex:∀b o,X.base.get? b=some o->b∉X.ex
 exfs:∀b∈X.ex,b∉X.fs
 funs:X.s₀.heap.FunFrames X.base X.outer
 frf:∀b∈X.fs,X.H₀ b=none
structure Inv(X:Cx)(pins:List (Addr×Obj))(σ:List (Option V))(H:Hp)(s:Shared):Prop where
 ok:X.Ok
 os:s.os=X.s₀.os
 bare:AllBare s.gens
 base:Un X.fs X.ex X.H₀ H X.s₀.heap s.heap
 loc:∃m,s.heap.Ns X.env.locals m/\∀(i:Nat)(x:Str)(v:V),X.N[i]?=some x->σ[i]?=some (some v)->Vis X.env.scope x->∃u,RelV v u/\Look X.env s.heap m x u
 cell:∀x c,X.env.cells.lookup x=some c->∃v,s.heap.IsCell c v
 free:H X.env.locals=none
 freeC:∀x c,X.env.cells.lookup x=some c->H c=none
 pin:∀p∈X.pn++pins,s.heap.get? p.1=some p.2/\H p.1=none/\p.1≠X.env.locals/\p.1∉X.fs/\∀v,p.2.data≠.cell v
 hok:HOk X.prog X.w H s.heap
 len:σ.length=X.N.length
section
variable{X:Cx}{pins:List (Addr×Obj)}{σ:List (Option V)}{H H':Hp}{s:Shared}{h':Heap}
theorem Cx.Ok.nofr(ok:X.Ok){b:Addr}{o:Obj}(e:X.base.get? b=some o):b∉X.fs:=λhb=>by
 have:=(ok.funs.mem hb).1;rw[e]at this;cases this
theorem Inv.bs(I:Inv X pins σ H s):∀b o,X.base.get? b=some o->s.heap.get? b=some o/\H b=none:=λb o e=>
 ⟨I.base.keep b o (I.ok.bs b o e).1 (I.ok.bs b o e).2 (I.ok.nofr e) (I.ok.noex b o e),I.base.free b o (I.ok.bs b o e).1 (I.ok.bs b o e).2 (I.ok.noex b o e)⟩
theorem Inv.bk(I:Inv X pins σ H s):∀b o,X.base.get? b=some o->s.heap.get? b=some o:=λb o e=>(I.bs b o e).1
theorem Inv.mod(I:Inv X pins σ H s):Mod X.K X.mg X.base:=I.ok.mod
theorem Inv.kIn(I:Inv X pins σ H s):X.K.In s.heap:=I.ok.mod.kin.keeps I.bk
theorem Inv.lt(I:Inv X pins σ H s):X.env.locals<s.heap.objs.size:=let ⟨_,hn,_⟩:=I.loc;hn.lt
theorem Inv.sz(I:Inv X pins σ H s):X.s₀.heap.objs.size<=s.heap.objs.size:=df I.ok.above (i4 I.lt)
theorem Inv.nofs(I:Inv X pins σ H s){a:Addr}(h:s.heap.objs.size<=a):a∉X.fs:=λhb=>by
 obtain⟨_,o,ho,_⟩:=I.ok.funs.mem hb;exact absurd (bj (ax ho) (df I.sz h)) (gj _)
theorem Inv.cne(I:Inv X pins σ H s):∀x c,X.env.cells.lookup x=some c->c≠X.env.locals:=λx c e z=>by
 obtain⟨v,o,ho,hd⟩:=I.cell x c e;obtain⟨m,⟨o',es,ep,ho',hd',_⟩,_⟩:=I.loc;rw[z,ho']at ho;cases ho;rw[hd']at hd;cases hd
theorem Inv.funs(I:Inv X pins σ H s):s.heap.FunFrames X.base X.outer:=by
 have all:∀(l:List Env),(∀b∈frs l,b∈X.fs)->X.s₀.heap.FunFrames X.base l->s.heap.FunFrames X.base l:=by
  intro l
  induction l with
  |nil=>intro _ _;trivial
  |cons env r ih=>
   intro hs hl;obtain⟨hk,⟨L,o,hf,hn,ho,hd⟩,hr⟩:=hl;have hL:L∈X.fs:=hs L (by unfold frs;rw[dj,hf];exact ai);obtain⟨sl,e⟩:=I.base.slot L o ho (I.ok.frf L hL) hL λz=>I.ok.exfs L z hL;exact⟨hk,⟨L,_,hf,hn,e,hd⟩,ih (λb hb=>hs b (by unfold frs;rw[dj,hf];exact aj _ hb)) hr⟩
 exact all X.outer (λ_ hb=>hb) I.ok.funs
theorem Inv.stack(I:Inv X pins σ H s):s.heap.FunFrames X.base X.stack:=by
 rcases I.ok.stk with e|⟨e,hf⟩
 ·rw[e];exact I.funs
 ·rw[e];obtain⟨m,hn,_⟩:=I.loc;refine .cons (by rw[I.ok.kind];decide) hf hn ?_ I.funs;exact Heap.get?_none_of_le (df I.ok.bsz I.ok.above)
theorem Inv.stkSub(I:Inv X pins σ H s):∀b∈frs X.stack,b∈X.env.locals::X.fs:=λb hb=>by
 rcases I.ok.stk with e|⟨e,hf⟩
 ·rw[e]at hb;exact aj _ hb
 ·rw[e]at hb;unfold frs at hb;rw[dj,hf]at hb;exact hb
theorem Inv.stkFree(I:Inv X pins σ H s):∀b∈frs X.stack,H b=none:=λb hb=>by
 rcases ba.mp (I.stkSub b hb) with e|hb
 ·rw[e];exact I.free
 ·obtain⟨_,o,ho,_⟩:=I.ok.funs.mem hb;exact I.base.free b o ho (I.ok.frf b hb) λz=>I.ok.exfs b z hb
theorem Inv.step{g':Array GenState}{t':Nat}{d':Drawn}{ch:List Addr}(I:Inv X pins σ H s)
  (hch:∀b∈ch,(b∈X.ex\/X.s₀.heap.objs.size<=b)/\b≠X.env.locals/\(∀x c,X.env.cells.lookup x=some c->c≠b)/\∀p∈X.pn++pins,p.1≠b)
  (keep:∀b o,b≠X.env.locals->b∉X.fs->b∉ch->s.heap.get? b=some o->H b=none->h'.get? b=some o)
  (slot:∀b o,b≠X.env.locals->b∈X.fs->b∉ch->s.heap.get? b=some o->H b=none->∃sl,h'.get? b=some { o with slots:=sl }) (free:∀b o,b∉ch->s.heap.get? b=some o->H b=none->H' b=none)
  (there:∀b o,b∉ch->s.heap.get? b=some o->∃o',h'.get? b=some o')
  (tups:∀b xs,H b=some (.tup xs)->H' b=some (.tup xs)) (frzs:∀b o u,H b=some (.frz o u)->H' b=some (.frz o u)) (tbls:∀b ps,H b=some (.tbl ps)->∃more,H' b=some (.tbl (ps++more)))
  (ns:∀m,s.heap.Ns X.env.locals m->h'.Ns X.env.locals m) (hok:HOk X.prog X.w H' h') (hg:AllBare g'):
  Inv X pins σ H' { s with heap:=h',gens:=g',drawn:=d',toks:=t' }:=by
 have neL:∀b o,X.s₀.heap.get? b=some o->b≠X.env.locals:=λb o e=>a9 (bj (ax e) I.ok.above);have neC:∀b o,X.s₀.heap.get? b=some o->b∉X.ex->b∉ch:=λb o e hx hb=>by
  rcases(hch b hb).1 with z|z
  ·exact hx z
  ·exact absurd (bj (ax e) z) (gj _)
 have cellK:∀x c,X.env.cells.lookup x=some c->∀v,s.heap.IsCell c v->h'.IsCell c v:=λx c e v ⟨o,ho,hd⟩=>by
  have nch:c∉ch:=λz=>(hch c z).2.2.1 x c e rfl
  by_cases hc:c∈X.fs
  ·obtain⟨sl,q⟩:=slot c o (I.cne x c e) hc nch ho (I.freeC x c e);exact⟨_,q,hd⟩
  ·exact⟨o,keep c o (I.cne x c e) hc nch ho (I.freeC x c e),hd⟩
 refine⟨I.ok,I.os,hg,⟨λb o e n hb hx=>?_,λb o e n hb hx=>?_,λb o e n hx=>?_,λb o e hx=>?_,λb xs e=>tups b xs (I.base.tups b xs e),λb o xs e=>frzs b o xs (I.base.frzs b o xs e),λb ps e=>?_⟩,?_,λx c e=>?_,?_,λx c e=>?_,λp hp=>?_,hok,I.len⟩
 ·exact keep b o (neL b o e) hb (neC b o e hx) (I.base.keep b o e n hb hx) (I.base.free b o e n hx)
 ·obtain⟨sl,e1⟩:=I.base.slot b o e n hb hx;obtain⟨sl',e2⟩:=slot b _ (neL b o e) hb (neC b o e hx) e1 (I.base.free b o e n hx);exact⟨sl',e2⟩
 ·obtain⟨o',e1⟩:=I.base.there b o e hx;exact free b o' (neC b o e hx) e1 (I.base.free b o e n hx)
 ·obtain⟨o',e1⟩:=I.base.there b o e hx;exact there b o' (neC b o e hx) e1
 ·obtain⟨m1,e1⟩:=I.base.tbls b ps e;obtain⟨m2,e2⟩:=tbls b _ e1;exact⟨m1++m2,by rw[e2,Array.append_assoc]⟩
 ·obtain⟨m,hn,hl⟩:=I.loc;refine⟨m,ns m hn,λi x v e1 e2 e3=>?_⟩;obtain⟨u,r,l⟩:=hl i x v e1 e2 e3;refine⟨u,r,?_⟩;rcases l with l|⟨k,c,e,z⟩
  ·exact .inl l
  ·exact .inr ⟨k,c,e,cellK x c e _ z⟩
 ·obtain⟨v,z⟩:=I.cell x c e;exact⟨v,cellK x c e v z⟩
 ·obtain⟨m,⟨o,_,_,ho,_⟩,_⟩:=I.loc;exact free _ o (λz=>(hch _ z).2.1 rfl) ho I.free
 ·obtain⟨v,o,ho,hd⟩:=I.cell x c e;exact free c o (λz=>(hch c z).2.2.1 x c e rfl) ho (I.freeC x c e)
 ·obtain⟨e,n,ne,nf,d⟩:=I.pin p hp;have nch:p.1∉ch:=λz=>(hch p.1 z).2.2.2 p hp rfl;exact⟨keep p.1 p.2 ne nf nch e n,free p.1 p.2 nch e n,ne,nf,d⟩
theorem Inv.un{t':Nat}(I:Inv X pins σ H s)(u:Un X.fs [] H H' s.heap h')(hok:HOk X.prog X.w H' h'):Inv X pins σ H' { s with heap:=h',toks:=t' }:=by
 obtain⟨m,⟨o,es,ep,ho,r⟩,_⟩:=id I.loc;obtain⟨sl,hL⟩:=u.any ho I.free (by simp);exact I.step (g':=s.gens) (d':=s.drawn) (ch:=[]) (λ_ z=>nomatch z) (λb o _ hb _ e n=>u.keep b o e n hb (by simp)) (λb o _ hb _ e n=>u.slot b o e n hb (by simp)) (λb o _ e n=>u.free b o e n (by simp)) (λb o _ e=>u.there b o e (by simp)) u.tups u.frzs u.tbls (λm' hm=>by
  obtain⟨o',es',ep',ho',r'⟩:=hm;rw[ho]at ho';cases ho';exact⟨_,es',ep',hL,r'⟩) hok I.bare
theorem Inv.call{g':Array GenState}{t':Nat}{d':Drawn}{ch:List Addr}(I:Inv X pins σ H s)(u:Un (frs X.stack) ch H H' s.heap h')(hok:HOk X.prog X.w H' h')(hg:AllBare g')
  (hch:∀b∈ch,(b∈X.ex\/X.s₀.heap.objs.size<=b)/\b≠X.env.locals/\(∀x c,X.env.cells.lookup x=some c->c≠b)/\∀p∈X.pn++pins,p.1≠b):
  Inv X pins σ H' { s with heap:=h',gens:=g',drawn:=d',toks:=t' }:=by
 obtain⟨m,⟨o,es,ep,ho,r⟩,_⟩:=id I.loc;obtain⟨sl,hL⟩:=u.any ho I.free λz=>(hch _ z).2.1 rfl;exact I.step (ch:=ch) hch (λb o hL hb hc e n=>u.keep b o e n (λz=>(ba.mp (I.stkSub b z)).elim hL hb) hc) (λb o _ _ hc e n=>u.any e n hc) (λb o hc e n=>u.free b o e n hc) (λb o hc e=>u.there b o e hc) u.tups u.frzs u.tbls (λm' hm=>by
  obtain⟨o',es',ep',ho',r'⟩:=hm;rw[ho]at ho';cases ho';exact⟨_,es',ep',hL,r'⟩) hok hg
theorem Inv.turned{t':Nat}{it:Addr}(I:Inv X pins σ H s)(k:∀b o,b≠it->s.heap.get? b=some o->h'.get? b=some o)(hn:H it=none)(hL:it≠X.env.locals)
  (h1:it∈X.ex\/X.s₀.heap.objs.size<=it) (h2:∀x c,X.env.cells.lookup x=some c->c≠it) (h3:∀p∈X.pn++pins,p.1≠it):Inv X pins σ H { s with heap:=h',toks:=t' }:=by
 have nit:∀b u,H b=some u->b≠it:=λb u e z=>by rw[z,hn]at e;cases e
 refine I.step (g':=s.gens) (d':=s.drawn) (ch:=[it]) (λb hb=>?_) (λb o _ _ hc e _=>k b o (λz=>hc (by simp[z])) e) (λb o _ _ hc e _=>⟨o.slots,k b o (λz=>hc (by simp[z])) e⟩) (λ_ _ _ _ n=>n)
  (λb o hc e=>⟨o,k b o (λz=>hc (by simp[z])) e⟩) (λ_ _ e=>e) (λ_ _ _ e=>e) (λb ps e=>⟨#[],by rw[e];simp⟩) (λm hm=>?_) (λb u e=>?_) I.bare
 ·have e:b=it:=by simpa using hb
  subst e;exact⟨h1,hL,h2,h3⟩
 ·obtain⟨o,es,ep,ho,r⟩:=hm;exact⟨o,es,ep,k _ o (k0 hL) ho,r⟩
 ·refine(I.hok b u e).stay (λc v hc q=>k c v ?_ q) (λ_ q=>q) λ_ _ q=>q;rcases hc with z|z
  ·rw[z];exact nit b u e
  ·exact nit c _ z
theorem Inv.tok(I:Inv X pins σ H s)(t:Nat):Inv X pins σ H { s with toks:=t }:=I.un (h':=s.heap) (t':=t) Un.refl I.hok
theorem Inv.kept{t':Nat}(I:Inv X pins σ H s)(k:∀b u,s.heap.get? b=some u->h'.get? b=some u):Inv X pins σ H { s with heap:=h',toks:=t' }:=I.un (Un.kept k) (I.hok.kept k)
theorem Inv.laid{a:Addr}{o:HO}{t':Nat}(I:Inv X pins σ H s)(k:∀b u,s.heap.get? b=some u->h'.get? b=some u)(hp:s.heap.objs.size<=a)(new:cK X.prog X.w (upd H a o) h' a o):
  Inv X pins σ (upd H a o) { s with heap:=h',toks:=t' }:=I.un (Un.laid k hp (I.hok.fresh hp)) (I.hok.laid k hp new)
theorem Inv.write{x e:Addr}{o:HO}{t':Nat}(I:Inv X pins σ H s)(mu:Mut (H x))(he:e=x\/H e=some (.own x))(k:∀b u,b≠e->s.heap.get? b=some u->h'.get? b=some u)(heo:∃u,h'.get? e=some u)
  (new:cK X.prog X.w (upd H x o) h' x o):Inv X pins σ (upd H x o) { s with heap:=h',toks:=t' }:=I.un (Un.write mu he k heo) (I.hok.write mu he k heo new)
theorem Inv.pins_of{pins':List (Addr×Obj)}(I:Inv X pins σ H s)(h:∀p∈pins',s.heap.get? p.1=some p.2/\H p.1=none/\p.1≠X.env.locals/\p.1∉X.fs/\∀v,p.2.data≠.cell v):Inv X pins' σ H s:=
 ⟨I.ok,I.os,I.bare,I.base,I.loc,I.cell,I.free,I.freeC,λp hp=>(bh.mp hp).elim (λz=>I.pin p (ij _ z)) (h p),I.hok,I.len⟩
theorem CF{N:List Str}(hN:N.Nodup){i j:Nat}{x:Str}(a:N[i]?=some x)(b:N[j]?=some x):i=j:=by
 obtain⟨h1,e1⟩:=ab.mp a;obtain⟨h2,e2⟩:=ab.mp b;exact(List.getElem_inj hN).mp (e1.trans e2.symm)
theorem zN{M:Model}{A:Around}{E:Value->Shared->Prop}{i:Nat}{x:Str}{v:V}{u:Value}{Q:Unit->Shared->Prop}(I:Inv X pins σ H s)(hN:X.N.Nodup)(hi:X.N[i]?=some x)(hx:Loc X.env.scope x)(r:RelV v u)
  (h:∀s',Inv X pins (σ.set i (some v)) H s'->(∃a,gq a s.heap s'.heap/\(a=X.env.locals\/X.env.cells.lookup x=some a))->Q () s') (hf:X.fn x=true\/X.env.scope.names.lookup x=some .local:=by first|exact .inl rfl|exact .inr rfl|assumption):wpAny M A (storeName X.env x u) Q E s:=by
 obtain⟨m,hn,hl⟩:=id I.loc;have hcls:(X.env.scope.kind == .class || (X.env.scope.kind == .module&&X.env.locals != X.env.globals))=false:=by rw[I.ok.kind];rfl
 have hiσ:i<σ.length:=by rw[I.len];exact(ab.mp hi).1
 have cne:=I.cne;have tracked:∀{a:Addr}{h':Heap},(∃o,s.heap.get? a=some o/\H a=none)->gq a s.heap h'->HOk X.prog X.w H h':=λ{a h'} ha hs b ob e=>by
  obtain⟨_,_,hfree⟩:=ha;refine(I.hok b ob e).stay (λc w' hc q=>(hs.2 c ?_).trans q) (λ_ q=>q) λ_ _ q=>q;rintro rfl;rcases hc with rfl|hc
  ·rw[hfree]at e;cases e
  ·rw[hfree]at hc;cases hc
 rcases hx with hk|hk
 ·refine wpAny_storeName_local hk hn (λh' hn' hs=>?_) hcls;obtain⟨oL,_,_,hoL,_⟩:=id hn;refine h _ ⟨I.ok,I.os,I.bare,⟨λb o e n hb hx=>?_,λb o e n hb hx=>?_,I.base.free,λb o e hx=>?_,I.base.tups,I.base.frzs,I.base.tbls⟩,⟨_,hn',λj y v' e1 e2 e3=>?_⟩,λy c e=>?_,I.free,I.freeC,λp hp=>?_,tracked ⟨oL,hoL,I.free⟩ hs,by simpa using I.len⟩ ⟨_,hs,.inl rfl⟩
  ·exact(hs.2 b (a9 (bj (ax e) I.ok.above))).trans (I.base.keep b o e n hb hx)
  ·obtain⟨sl,e1⟩:=I.base.slot b o e n hb hx;exact⟨sl,(hs.2 b (a9 (bj (ax e) I.ok.above))).trans e1⟩
  ·obtain⟨o',e1⟩:=I.base.there b o e hx;exact⟨o',(hs.2 b (a9 (bj (ax e) I.ok.above))).trans e1⟩
  ·by_cases hj:j=i
   ·subst hj;rw[hi]at e1;cases e1;rw[ir hiσ]at e2;cases e2
    exact⟨u,r,.inl ⟨hk,by simp⟩⟩
   ·rw[bg (k0 hj)]at e2;obtain⟨u',r',q⟩:=hl j y v' e1 e2 e3;refine⟨u',r',?_⟩;rcases q with⟨k,e⟩|⟨k,c,e,z⟩
    ·refine .inl ⟨k,?_⟩;have:y≠x:=λe=>hj (CF hN e1 (e▸hi));simp[this,e]
    ·exact .inr ⟨k,c,e,z.sameBut hs (cne y c e)⟩
  ·obtain⟨w',z⟩:=I.cell y c e;exact⟨w',z.sameBut hs (cne y c e)⟩
  ·obtain⟨e,n,ne,nf,d⟩:=I.pin p hp;exact⟨(hs.2 p.1 ne).trans e,n,ne,nf,d⟩
 ·have hfn:X.fn x=true:=by
   rcases hf with z|z
   ·exact z
   ·rw[z]at hk;cases hk
  obtain⟨c,hc⟩:=I.ok.has x (.inl hk);obtain⟨w',z⟩:=I.cell x c hc;refine wpAny_storeName_cell I.ok.kind hk hc z (λh' hc' hs=>?_);obtain⟨oc,hoc,hocd⟩:=id z;refine h { s with heap:=h' } ⟨I.ok,I.os,I.bare,⟨λb o e n hb hx=>?_,λb o e n hb hx=>?_,I.base.free,λb o e hx=>?_,I.base.tups,I.base.frzs,I.base.tbls⟩,⟨m,hn.sameBut hs (k0 (cne x c hc)),λj y v' e1 e2 e3=>?_⟩,λy c' e=>?_,I.free,I.freeC,λp hp=>?_,tracked ⟨oc,hoc,I.freeC x c hc⟩ hs,by simpa using I.len⟩ ⟨c,hs,.inr hc⟩
  ·exact(hs.2 b (a9 (bj (ax e) (I.ok.cab x c hfn hc)))).trans (I.base.keep b o e n hb hx)
  ·obtain⟨sl,e1⟩:=I.base.slot b o e n hb hx;exact⟨sl,(hs.2 b (a9 (bj (ax e) (I.ok.cab x c hfn hc)))).trans e1⟩
  ·obtain⟨o',e1⟩:=I.base.there b o e hx;exact⟨o',(hs.2 b (a9 (bj (ax e) (I.ok.cab x c hfn hc)))).trans e1⟩
  ·by_cases hj:j=i
   ·subst hj;rw[hi]at e1;cases e1;rw[ir hiσ]at e2;cases e2
    exact⟨u,r,.inr ⟨.inl hk,c,hc,hc'⟩⟩
   ·rw[bg (k0 hj)]at e2;obtain⟨u',r',q⟩:=hl j y v' e1 e2 e3;refine⟨u',r',?_⟩;rcases q with q|⟨k,c',e,z'⟩
    ·exact .inl q
    ·refine .inr ⟨k,c',e,z'.sameBut hs ?_⟩;rintro rfl;exact hj (CF hN e1 (I.ok.inj _ _ _ e hc▸hi))
  ·by_cases hcc:c'=c
   ·subst hcc;exact⟨_,hc'⟩
   ·obtain⟨w2,z2⟩:=I.cell y c' e;exact⟨w2,z2.sameBut hs hcc⟩
  ·obtain⟨e,n,ne,nf,d⟩:=I.pin p hp;refine⟨(hs.2 p.1 ?_).trans e,n,ne,nf,d⟩;intro q;rw[q,hoc]at e;have q':oc=p.2:=bq e;exact d w' (by rw[<-q'];exact hocd)
theorem CG{M:Model}{A:Around}{E:Value->Shared->Prop}{i:Nat}{x:Str}{v:V}{u:Value}{Q:Unit->Shared->Prop}(I:Inv X pins σ H s)(hN:X.N.Nodup)(hi:X.N[i]?=some x)(hx:Loc X.env.scope x)(r:RelV v u)
  (h:∀s',Inv X pins (σ.set i (some v)) H s'->Q () s') (hf:X.fn x=true\/X.env.scope.names.lookup x=some .local:=by first|exact .inl rfl|exact .inr rfl|assumption):wpAny M A (storeName X.env x u) Q E s:=
 zN I hN hi hx r (λs' I' _=>h s' I') hf
theorem Inv.call'{s':Shared}{ch:List Addr}(I:Inv X pins σ H s)(ho:s'.os=s.os)(u:Un (frs X.stack) ch H H' s.heap s'.heap)(hok:HOk X.prog X.w H' s'.heap)(hg:AllBare s'.gens)
  (hch:∀b∈ch,(b∈X.ex\/X.s₀.heap.objs.size<=b)/\b≠X.env.locals/\(∀x c,X.env.cells.lookup x=some c->c≠b)/\∀p∈X.pn++pins,p.1≠b):Inv X pins σ H' s':=by
 obtain⟨h',g',d',t',o'⟩:=s';have e:o'=s.os:=ho;subst e;exact I.call (g':=g') (t':=t') (d':=d') u hok hg hch
end
abbrev XK:=Value->Option Addr->Hp->Prop
abbrev St:=List (Option V)
abbrev VK:=V->Hp->Prop
abbrev TE:=St->Hp->VK->Prop
abbrev TT:=St->Hp->(Bool->Hp->Prop)->Prop
abbrev TA:=St->Hp->(List V->Hp->Prop)->Prop
structure Ends where
 nx:St->Hp->Prop
 rt:VK
 bk:St->Hp->Prop:=λ_ _=>False
 ct:St->Hp->Prop:=λ_ _=>False
abbrev TS:=Ends->St->Hp->Prop
def EP(X:Cx)(pins:List (Addr×Obj))(σ:St)(Q:VK)(u:Value)(s':Shared):Prop:=∃v H',Inv X pins σ H' s'/\RelV v u/\Q v H'
def TP(X:Cx)(pins:List (Addr×Obj))(σ:St)(Q:Bool->Hp->Prop)(b:Bool)(s':Shared):Prop:=∃H',Inv X pins σ H' s'/\Q b H'
def AP(X:Cx)(pins:List (Addr×Obj))(σ:St)(Q:List V->Hp->Prop)(us:List Value)(s':Shared):Prop:=∃vs H',Inv X pins σ H' s'/\aO vs us/\Q vs H'
def SP(X:Cx)(pins:List (Addr×Obj))(D:Ends)(f:Flow)(s':Shared):Prop:=
 match f with
 |.next=>∃σ' H',Inv X pins σ' H' s'/\D.nx σ' H'
 |.brk=>∃σ' H',Inv X pins σ' H' s'/\D.bk σ' H'
 |.cont=>∃σ' H',Inv X pins σ' H' s'/\D.ct σ' H'
 |.ret u=>∃v σ' H',Inv X pins σ' H' s'/\RelV v u/\D.rt v H'
def PE(X:Cx)(e:Expr)(t:TE):Prop:=
 ∀(pins:List (Addr×Obj))(s:Shared)(σ:St)(H:Hp)(Q:VK),Inv X pins σ H s->t σ H Q->wpAny (model X.prog X.w) X.A (eval e X.env) (EP X pins σ Q) X.xe s
def PT(X:Cx)(e:Expr)(t:TT):Prop:=
 ∀(pins:List (Addr×Obj))(s:Shared)(σ:St)(H:Hp)(Q:Bool->Hp->Prop),Inv X pins σ H s->t σ H Q->wpAny (model X.prog X.w) X.A (isTrue e X.env (eval e X.env)) (TP X pins σ Q) X.xe s
def PW(X:Cx)(e:Expr)(t:TT):Prop:=
 ∀(whole:Sem Value)(pins:List (Addr×Obj))(s:Shared)(σ:St)(H:Hp)(Q:Bool->Hp->Prop),Inv X pins σ H s->t σ H Q->wpAny (model X.prog X.w) X.A (isTrue e X.env whole) (TP X pins σ Q) X.xe s
theorem PW.pt{X:Cx}{e:Expr}{t:TT}(h:PW X e t):PT X e t:=h _
def PA(X:Cx)(es:List Expr)(t:TA):Prop:=
 ∀(pos:Pos)(pins:List (Addr×Obj))(s:Shared)(σ:St)(H:Hp)(Q:List V->Hp->Prop),Inv X pins σ H s->t σ H Q->wpAny (model X.prog X.w) X.A (spliced (backTo pos (bu es X.env))) (AP X pins σ Q) X.xe s
def PS(X:Cx)(st:Stmt)(t:TS):Prop:=
 ∀(pins:List (Addr×Obj))(s:Shared)(σ:St)(H:Hp)(D:Ends),Inv X pins σ H s->t D σ H->wpAny (model X.prog X.w) X.A (exec st X.env) (SP X pins D) X.xe s
def PSs(X:Cx)(st:List Stmt)(t:TS):Prop:=
 ∀(pins:List (Addr×Obj))(s:Shared)(σ:St)(H:Hp)(D:Ends),Inv X pins σ H s->t D σ H->wpAny (model X.prog X.w) X.A (execs st X.env) (SP X pins D) X.xe s
theorem thn{α:Type}{t:Sem α}{Q Q':α->Shared->Prop}{M:Model}{A:Around}{E:Value->Shared->Prop}{s:Shared}(h:wpAny M A t Q E s)(hQ:∀a s,Q a s->Q' a s):wpAny M A t Q' E s:=ix h hQ λ_ _ x=>x
section
variable{X:Cx}
def Xi(i:Nat):TE:=λσ H Q=>∃v,σ[i]?=some (some v)/\Q v H
def tC(v:V):TE:=λ_ H Q=>Q v H
theorem KW{i:Nat}{x:Str}{pos:Pos}(hN:X.N[i]?=some x)(hv:Vis X.env.scope x)(hd:(x == ("__debug__" : Str))=false:=by decide)(hcd:(x == ("__classdict__" : Str))=false:=by decide):PE X (.Name x pos) (Xi i):=by
 intro pins s σ H Q I h;obtain⟨v,e,h⟩:=h;obtain⟨m,hn,hl⟩:=I.loc;obtain⟨u,r,l⟩:=hl i x v hN e hv;have fin:EP X pins σ Q u s:=⟨v,H,I,r,h⟩;rcases l with⟨hk,hm⟩|⟨hk,c,hc,hcell⟩
 ·exact wpAny_Name (wpAny_loadName_local I.ok.kind hk hn hm fin) hd
 ·rcases hk with hk|hk
  ·exact wpAny_Name (wpAny_loadName_cell I.ok.kind hk hc hcell fin) hd
  ·exact wpAny_Name (wpAny_loadName_free I.ok.kind hk hc hcell fin hcd) hd
theorem Sq{i j pos}:PE X (.Constant (.int i) j pos) (tC (.int i)):=λ_ _ _ H _ I h=>wpAny_Constant_int ⟨.int i,H,I.tok _,⟨_,rfl⟩,h⟩
theorem V7{b j pos}:PE X (.Constant (.bool b) j pos) (tC (.bl b)):=λ_ _ _ H _ I h=>Constant_bool ⟨.bl b,H,I,rfl,h⟩
theorem Sr{j pos}:PE X (.Constant .none j pos) (tC .non):=λ_ _ _ H _ I h=>Constant_none ⟨.non,H,I,rfl,h⟩
theorem Su{x j pos}:PE X (.Constant (.str x) j pos) (tC (.str x)):=λ_ _ _ H _ I h=>Calls.Constant_str ⟨.str x,H,I.tok _,⟨_,rfl⟩,h⟩
def Gl(X:Cx)(x:Str):Prop:=X.env.kindOf x=some .globalImplicit
theorem uS{E:Value->Shared->Prop}{pins:List (Addr×Obj)}{s:Shared}{σ:St}{H:Hp}{x:Str}{u:Value}{pos:Pos}{Q:Value->Shared->Prop}(I:Inv X pins σ H s)(hg:Gl X x)(hm:X.mg x=some u)(h:Q u s)
  (hd:(x == ("__debug__" : Str))=false:=by decide):wpAny (model X.prog X.w) X.A (eval (.Name x pos) X.env) Q E s:=
 Calls.Name_function_global I.ok.kind hg (Calls.loadGlobal_global (by rw[I.ok.glob];exact I.mod.glob.keeps I.bk) hm h) hd
theorem rD{E:Value->Shared->Prop}{pins:List (Addr×Obj)}{s:Shared}{σ:St}{H:Hp}{x:Str}{u:Value}{pos:Pos}{Q:Value->Shared->Prop}(I:Inv X pins σ H s)(hg:Gl X x)(hm:X.mg x=none)(hv:og x=some u)(h:Q u s)
  (hn:x≠"__name__" := by decide) (hd:(x == ("__debug__" : Str))=false:=by decide):wpAny (model X.prog X.w) X.A (eval (.Name x pos) X.env) Q E s:=by
 obtain⟨mb,h1,h2⟩:=I.mod.blt;exact Calls.Name_function_global I.ok.kind hg (Calls.loadGlobal_builtin (by rw[I.ok.glob];exact I.mod.glob.keeps I.bk) hm (by rw[I.ok.blt];exact h1.keeps I.bk) ((h2 x hn).trans hv) h) hd
variable{a b:Expr}{ta tb:TE}{pos:Pos}
variable{tA tB':TT}{rest:List Expr}
def Xj(t u:TT):TT:=λσ H Q=>t σ H λc H1=>if c=true then u σ H1 Q else Q false H1
def tOr(t u:TT):TT:=λσ H Q=>t σ H λc H1=>if c=true then Q true H1 else u σ H1 Q
def Xk(t:TT):TT:=λσ H Q=>t σ H λc H1=>Q (!c) H1
theorem OW(ha:PT X a tA):PW X (.BoolOp .And [a] pos) tA:=by
 intro wh pins s σ H Q I h;refine isTrue_and (thn (ha pins s σ H Q I h) λc s1 e=>?_);cases c with
 |true=>exact isTrue_and_nil e
 |false=>exact e
theorem Sv(ha:PT X a tA):PW X (.BoolOp .Or [a] pos) tA:=by
 intro wh pins s σ H Q I h;refine isTrue_or (thn (ha pins s σ H Q I h) λc s1 e=>?_);cases c with
 |false=>exact isTrue_or_nil e
 |true=>exact e
theorem Sw(ha:PT X a tA)(hb:PW X (.BoolOp .And (b::rest) pos) tB'):PW X (.BoolOp .And (a::b::rest) pos) (Xj tA tB'):=by
 intro wh pins s σ H Q I h;refine isTrue_and (thn (ha pins s σ H _ I h) λc s1 ⟨H1,I1,q1⟩=>?_);cases c with
 |true=>exact hb wh pins s1 σ H1 Q I1 q1
 |false=>exact⟨H1,I1,q1⟩
theorem V8(ha:PT X a tA)(hb:PW X (.BoolOp .Or (b::rest) pos) tB'):PW X (.BoolOp .Or (a::b::rest) pos) (tOr tA tB'):=by
 intro wh pins s σ H Q I h;refine isTrue_or (thn (ha pins s σ H _ I h) λc s1 ⟨H1,I1,q1⟩=>?_);cases c with
 |true=>exact⟨H1,I1,q1⟩
 |false=>exact hb wh pins s1 σ H1 Q I1 q1
theorem Sx(ha:PT X a tA):PT X (.UnaryOp .Not a pos) (Xk tA):=by
 intro pins s σ H Q I h;exact isTrue_not (ha pins s σ H (λc H1=>Q (!c) H1) I h)
theorem Sy{op}{t:TE}(h:PE X a t):PE X (.BoolOp op [a] pos) t:=λpins s σ H Q I hw=>BoolOp_one (h pins s σ H Q I hw)
def tIf(t:TT)(ta tb:TE):TE:=λσ H Q=>t σ H λc H1=>if c=true then ta σ H1 Q else tb σ H1 Q
theorem KY{c:Expr}(hc:PT X c tA)(ha:PE X a ta)(hb:PE X b tb):PE X (.IfExp c a b pos) (tIf tA ta tb):=by
 intro pins s σ H Q I h;refine wpAny_IfExp (thn (hc pins s σ H _ I h) λd s1 ⟨H1,I1,q1⟩=>?_);cases d with
 |true=>exact ha pins s1 σ H1 Q I1 q1
 |false=>exact hb pins s1 σ H1 Q I1 q1
end
def SqL(K:ah)(H:Hp)(a:Addr)(xs:List V):Prop:=
 Rd H a (.lst xs)\/
  ∃(o:Obj)(its:Array Value)(n:Nat),K.lookup a=some o/\o.cls=.type "list" /\ o.dict=none/\o.data=.seq its n/\its.size<=aw/\aO xs its.toList
def SqT(K:ah)(H:Hp)(a:Addr)(xs:List V):Prop:=
 Rd H a (.tup xs)\/
  ∃(o:Obj)(its:Array Value)(n:Nat),K.lookup a=some o/\o.cls=.type "tuple" /\ o.data=.seq its n/\its.size<=aw/\aO xs its.toList/\o.dict=none
def Xl:Value->Option V
 |.none=>some .non
 |.bool b=>some (.bl b)
 |.int i _=>some (.int i)
 |.str x _=>some (.str x)
 |.bytes b _=>some (.byt b)
 |.float b _=>some (.flt b)
 |.ref a=>some (.ref a)
 |.type n=>some (.ty n)
 |_=>none
theorem RelV.abs{x:V}{u:Value}(r:RelV x u):Xl u=some x:=by
 cases x with
 |non=>cases r;rfl
 |bl _=>cases r;rfl
 |int _=>obtain⟨t,rfl⟩:=r;rfl
 |str _=>obtain⟨t,rfl⟩:=r;rfl
 |byt _=>obtain⟨t,rfl⟩:=r;rfl
 |flt _=>obtain⟨t,rfl⟩:=r;rfl
 |ref _=>cases r;rfl
 |ty _=>cases r;rfl
theorem RelV.inj{x y:V}{u:Value}(r:RelV x u)(q:RelV y u):x=y:=bq (r.abs.symm.trans q.abs)
theorem aO.inj:∀{xs ys:List V}{us:List Value},aO xs us->aO ys us->xs=ys
 |_,_,_,.nil,.nil=>rfl
 |_,_,_,.cons r t,.cons r' t'=>by rw[r.inj r',aO.inj t t']
section
variable{X:Cx}{pins:List (Addr×Obj)}{σ:St}{H:Hp}{s:Shared}{a:Addr}{xs ys:List V}
theorem SqL.of{K:ah}(h:H a=some (.lst xs)):SqL K H a xs:=.inl (.inl h)
theorem SqT.of{K:ah}(h:H a=some (.tup xs)):SqT K H a xs:=.inl (.inl h)
theorem Inv.list(I:Inv X pins σ H s)(h:SqL X.K H a xs):∃its:List Value,aO xs its/\PlainL s.heap a its.toArray/\xs.length<=aw:=by
 rcases h with h|⟨o,its,n,hk,hc,hd,hs,hz,r⟩
 ·obtain⟨z,its,n,r,e⟩:=h.ok I.hok;exact⟨its,r,⟨_,n,e,rfl,rfl,rfl⟩,z⟩
 ·refine⟨its.toList,r,⟨o,n,I.kIn a o hk,hc,hd,by simpa using hs⟩,?_⟩
  have e:=r.length;simp only[dk]at e;omega
theorem Inv.tuple(I:Inv X pins σ H s)(h:SqT X.K H a xs):∃its:List Value,aO xs its/\IsTup s.heap a its.toArray/\xs.length<=aw:=by
 rcases h with h|⟨o,its,n,hk,hc,hs,hz,r,_⟩
 ·obtain⟨z,its,r,p⟩:=h.ok I.hok;exact⟨its,r,p.is,z⟩
 ·refine⟨its.toList,r,⟨o,I.kIn a o hk,hc,n,by simpa using hs⟩,?_⟩
  have e:=r.length;simp only[dk]at e;omega
theorem Inv.list_inj(I:Inv X pins σ H s)(h:SqL X.K H a xs)(h':SqL X.K H a ys):xs=ys:=by
 obtain⟨its,r,⟨o,n,e,_,_,d⟩,_⟩:=I.list h;obtain⟨its',r',⟨o',n',e',_,_,d'⟩,_⟩:=I.list h';rw[e]at e';cases e';rw[d]at d';injection d' with d1 _;have:its=its':=by simpa using congrArg Array.toList d1
 subst this;exact r.inj r'
theorem Inv.tuple_inj(I:Inv X pins σ H s)(h:SqT X.K H a xs)(h':SqT X.K H a ys):xs=ys:=by
 obtain⟨its,r,⟨o,e,_,n,d⟩,_⟩:=I.tuple h;obtain⟨its',r',⟨o',e',_,n',d'⟩,_⟩:=I.tuple h';rw[e]at e';cases e';rw[d]at d';injection d' with d1 _;have:its=its':=by simpa using congrArg Array.toList d1
 subst this;exact r.inj r'
end
abbrev Cx.wish(X:Cx)(E:Value->Shared->Prop):Cx:={ X with xe:=E }
abbrev Cx.nox(X:Cx):Cx:=X.wish λ_ _=>False
theorem Cx.Ok.wish{X:Cx}(ok:X.Ok)(E:Value->Shared->Prop):(X.wish E).Ok:=
 ⟨ok.mod,ok.kind,ok.glob,ok.blt,ok.above,ok.inj,ok.has,ok.cab,ok.hd,ok.frames,ok.stk,ok.exf,ok.bs,ok.bsz,ok.noex,ok.exfs,ok.funs,ok.frf⟩
theorem Cx.Ok.unwish{X:Cx}{E:Value->Shared->Prop}(ok:(X.wish E).Ok):X.Ok:=
 ⟨ok.mod,ok.kind,ok.glob,ok.blt,ok.above,ok.inj,ok.has,ok.cab,ok.hd,ok.frames,ok.stk,ok.exf,ok.bs,ok.bsz,ok.noex,ok.exfs,ok.funs,ok.frf⟩
section
variable{X:Cx}{pins:List (Addr×Obj)}{σ:St}{H:Hp}{s:Shared}{E:Value->Shared->Prop}
theorem Inv.wish(I:Inv X pins σ H s)(E:Value->Shared->Prop):Inv (X.wish E) pins σ H s:=⟨I.ok.wish E,I.os,I.bare,I.base,I.loc,I.cell,I.free,I.freeC,I.pin,I.hok,I.len⟩
theorem Inv.unwish(I:Inv (X.wish E) pins σ H s):Inv X pins σ H s:=⟨I.ok.unwish,I.os,I.bare,I.base,I.loc,I.cell,I.free,I.freeC,I.pin,I.hok,I.len⟩
theorem SP.unwish{D:Ends}{f:Flow}{s':Shared}(h:SP (X.wish E) pins D f s'):SP X pins D f s':=by
 cases f with
 |next=>obtain⟨σ',H',I,q⟩:=h;exact⟨σ',H',I.unwish,q⟩
 |brk=>obtain⟨σ',H',I,q⟩:=h;exact⟨σ',H',I.unwish,q⟩
 |cont=>obtain⟨σ',H',I,q⟩:=h;exact⟨σ',H',I.unwish,q⟩
 |ret u=>obtain⟨v,σ',H',I,r,q⟩:=h;exact⟨v,σ',H',I.unwish,r,q⟩
theorem PSs.nox{st:List Stmt}{t:TS}(h:PSs X.nox st t):PSs X st t:=λpins s σ H D I hw=>
 ix (h pins s σ H D (I.wish _) hw) (λ_ _ q=>q.unwish) λ_ _ z=>iy z
end
section
variable{X:Cx}{st:Stmt}{rest:List Stmt}{t u:TS}{e:Expr}{te:TE}{pos:Pos}
def V9:TS:=λD σ H=>D.nx σ H
def Xm(t u:TS):TS:=λD σ H=>t { D with nx:=u D } σ H
theorem OX:PSs X [] V9:=λ_ _ σ H _ I h=>wpAny_execs_nil ⟨σ,H,I,h⟩
theorem KZ(h1:PS X st t)(h2:PSs X rest u):PSs X (st::rest) (Xm t u):=by
 intro pins s σ H D I h;refine wpAny_execs_cons (thn (h1 pins s σ H { D with nx:=u D } I h) λf s1 q=>?_);cases f with
 |next=>
  obtain⟨σ',H',I',q⟩:=q;exact h2 pins s1 σ' H' D I' q
 |ret v=>exact q
 |brk=>exact q
 |cont=>exact q
theorem OY(h1:PS X st t):PSs X [st] t:=by
 intro pins s σ H D I h;refine wpAny_execs_cons (thn (h1 pins s σ H D I h) λf s1 q=>?_);cases f with
 |next=>exact wpAny_execs_nil q
 |ret v=>exact q
 |brk=>exact q
 |cont=>exact q
def V':TS:=λD σ H=>D.ct σ H
theorem CH:PS X (.Continue pos) V':=λ_ _ σ H _ I h=>wpAny_Continue ⟨σ,H,I,h⟩
theorem Inv.quiet{pins:List (Addr×Obj)}{σ:St}{H:Hp}{s:Shared}(I:Inv X pins σ H s):interactive X.env=false:=by simp[interactive,I.ok.kind]
def Va(te:TE):TS:=λD σ H=>te σ H λ_ H1=>D.nx σ H1
theorem OZ(he:PE X e te)(hs:swapsWith e none pos.line X.env=pure false:=by rfl):PS X (.Expr e pos) (Va te):=by
 intro pins s σ H D I h;exact wpAny_Expr_any (thn (he pins s σ H _ I h) λv s1 ⟨x,H1,I1,r1,q1⟩=>⟨σ,H1,I1,q1⟩) I.quiet hs
def Xn(te:TE):TS:=λD σ H=>te σ H D.rt
theorem Sz(he:PE X e te):PS X (.Return (some e) pos) (Xn te):=by
 intro pins s σ H D I h;exact wpAny_Return_some (thn (he pins s σ H _ I h) λv s1 ⟨x,H1,I1,r1,q1⟩=>⟨x,σ,H1,I1,r1,q1⟩)
def Xo(c:TT)(t u:TS):TS:=λD σ H=>c σ H λb H1=>if b=true then t D σ H1 else u D σ H1
theorem Vb{c:Expr}{a b:List Stmt}{tc:TT}(hc:PT X c tc)(ha:PSs X a t)(hb:PSs X b u):PS X (.If c a b pos) (Xo tc t u):=by
 intro pins s σ H D I h;refine wpAny_If (thn (hc pins s σ H _ I h) λd s1 ⟨H1,I1,q1⟩=>?_);cases d with
 |true=>exact ha pins s1 σ H1 D I1 q1
 |false=>exact hb pins s1 σ H1 D I1 q1
end
abbrev TG:=V->St->Hp->(St->Hp->Prop)->Prop
abbrev TGs:=List V->St->Hp->(St->Hp->Prop)->Prop
def PG(X:Cx)(target:Expr)(t:TG):Prop:=
 ∀(pins:List (Addr×Obj))(s:Shared)(σ:St)(H:Hp)(v:V)(u:Value)(Q:St->Hp->Prop),Inv X pins σ H s->RelV v u->t v σ H Q->
  wpAny (model X.prog X.w) X.A (assign target X.env u) (λ_ s'=>∃σ' H',Inv X pins σ' H' s'/\Q σ' H') X.xe s
def PGs(X:Cx)(ts:List Expr)(t:TGs):Prop:=
 ∀(pins:List (Addr×Obj))(s:Shared)(σ:St)(H:Hp)(vs:List V)(us:List Value)(Q:St->Hp->Prop),Inv X pins σ H s->aO vs us->t vs σ H Q->
  wpAny (model X.prog X.w) X.A (assignInOrder ((jo ts X.env).map (·.2)) us) (λ_ s'=>∃σ' H',Inv X pins σ' H' s'/\Q σ' H') X.xe s
abbrev Xp:=V->V->V->Hp->(Hp->Prop)->Prop
def Xq(X:Cx)(t:Xp):Prop:=
 ∀(pins:List (Addr×Obj))(s:Shared)(σ:St)(H:Hp)(o i v:V)(ov iv u:Value)(Q:Hp->Prop),Inv X pins σ H s->RelV o ov->RelV i iv->RelV v u->t o i v H Q->
  wpAny (model X.prog X.w) X.A (setItem ov iv u) (λ_ s'=>∃H',Inv X pins σ H' s'/\Q H') X.xe s
section
variable{X:Cx}{pos:Pos}
def L0(i:Nat):TG:=λv σ H Q=>Q (σ.set i (some v)) H
theorem P0{i:Nat}{x:Str}(hN:X.N.Nodup)(hi:X.N[i]?=some x)(hx:Loc X.env.scope x)(hf:X.fn x=true\/X.env.scope.names.lookup x=some .local:=by first|exact .inl rfl|exact .inr rfl|assumption):PG X (.Name x pos) (L0 i):=by
 intro pins s σ H v u Q I r h;exact wpAny_assign_Name (CG I hN hi hx r (λs' I'=>⟨_,H,I',h⟩) hf)
def Xr:TGs:=λvs σ H Q=>vs=[]/\Q σ H
def Vc(t:TG)(u:TGs):TGs:=λvs σ H Q=>∃v r,vs=v::r/\t v σ H λσ' H'=>u r σ' H' Q
theorem P1:PGs X [] Xr:=by
 intro pins s σ H vs us Q I r h;obtain⟨e,h⟩:=h;subst e;cases r
 exact assignInOrder_nil ⟨σ,H,I,h⟩
theorem L1{e:Expr}{es:List Expr}{t:TG}{u:TGs}(h1:PG X e t)(h2:PGs X es u)
  (hs:(jo (e::es) X.env).map (·.2)=assign e X.env::(jo es X.env).map (·.2):=by rfl):PGs X (e::es) (Vc t u):=by
 intro pins s σ H vs us Q I r h;obtain⟨v,vr,e1,h⟩:=h;subst e1;cases r with
 |cons r rr=>
  rw[hs];refine assignInOrder_cons (thn (h1 pins s σ H _ _ _ I r h) λ_ s1 ⟨σ1,H1,I1,q1⟩=>?_);exact h2 pins s1 σ1 H1 _ _ Q I1 rr q1
def Vd(K:ah)(n:Nat)(t:TGs):TG:=λv σ H Q=>∃a xs,v=.ref a/\SqT K H a xs/\xs.length=n/\t xs σ H Q
theorem SB{es:List Expr}{k:Nat}{t:TGs}{n:Nat}(hc:X.calm=true)(h:PGs X es t)
  (hn:(jo es X.env).length=n:=by rfl) (hst:(jo es X.env).findIdx? (·.1)=none:=by rfl):PG X (.Tuple es k pos) (Vd X.K n t):=by
 intro pins s σ H v u Q I r hw;obtain⟨a,xs,e1,hq,hl,hw⟩:=hw;subst e1;cases r
 obtain⟨its,rv,ht,hz⟩:=I.tuple hq;refine assign_Tuple_tuple (I.ok.hd hc) ht (by simp[hn,<-hl,rv.length]) hst λh' hx=>?_;have I1:Inv X pins σ H { s with heap:=h' }:=I.kept (t':=s.toks) λb o e=>hx b o (a9 (ax e)) e;exact h pins _ σ H xs _ Q I1 (by simpa using rv) hw
def SC(te:TE)(g:TG):TS:=λD σ H=>te σ H λx H1=>g x σ H1 D.nx
theorem SD{tg e:Expr}{te:TE}{g:TG}(he:PE X e te)(hg:PG X tg g)(hs:swapsWithSole [tg] e pos.line X.env=pure false:=by rfl)(hw:swappedStores [tg] e X.env=pure none:=by rfl)
  (h1:(jo [tg] X.env).map (·.2)=[assign tg X.env]:=by rfl):PS X (.Assign [tg] e pos) (SC te g):=by
 intro pins s σ H D I h;refine wpAny_Assign_stores (thn (he pins s σ H _ I h) λv s1 hz=>?_) hs hw;obtain⟨x,H1,I1,r1,q1⟩:=hz;rw[h1];exact thn (hg pins s1 σ H1 x v _ I1 r1 q1) λ_ s2 q=>q
theorem SF{i:Nat}{x:Str}{e:Expr}{te:TE}{pos':Pos}(hN:X.N.Nodup)(hi:X.N[i]?=some x)(hx:Loc X.env.scope x)(he:PE X e te)(hs:swapsWith e (some (.Name x pos')) pos.line X.env=pure false:=by rfl)(hf:X.fn x=true\/X.env.scope.names.lookup x=some .local:=by first|exact .inl rfl|exact .inr rfl|assumption):
  PS X (.Assign [.Name x pos'] e pos) (SC te (L0 i)):=by
 intro pins s σ H D I h;refine wpAny_Assign_Name (thn (he pins s σ H _ I h) λv s1 hz=>?_) hs;obtain⟨y,H1,I1,r1,q1⟩:=hz;exact CG I1 hN hi hx r1 (λs2 I2=>⟨_,H1,I2,q1⟩) hf
end
structure It where
 go:Nat->Hp->Prop
 yld:Nat->Hp->V->Hp->Prop
 stop:Nat->Hp->Prop
def CI(X:Cx)(pins:List (Addr×Obj))(H:Hp)(b:Addr):Prop:=
 H b=none/\b≠X.env.locals/\b∉X.fs/\(b∈X.ex\/X.s₀.heap.objs.size<=b)/\(∀x c,X.env.cells.lookup x=some c->c≠b)/\∀p∈X.pn++pins,p.1≠b
theorem Inv.fpOk{X:Cx}{pins:List (Addr×Obj)}{σ:St}{H H':Hp}{s:Shared}{b:Addr}(I:Inv X pins σ H s)(hb:s.heap.objs.size<=b)(hn:H' b=none):CI X pins H' b:=by
 refine⟨hn,Nat.ne_of_gt (bj I.lt hb),I.nofs hb,.inr (df I.sz hb),λx c e z=>?_,λp hp z=>?_⟩
 ·obtain⟨v,q⟩:=I.cell x c e;exact absurd (bj q.lt (by rw[z];exact hb)) (gj _)
 ·exact absurd (bj (ax (I.pin p hp).1) (by rw[z];exact hb)) (gj _)
structure Turn(P:Program)(w:World)(K:ah)(tg:Expr)(J:It)(fp:List Addr)(it:Addr)(tn:Nat->Heap->Prop):Prop where
 mem:it∈fp
 obj:∀i h,tn i h->∀b∈fp,∃o,h.get? b=some o/\∀v,o.data≠.cell v
 keep:∀i h h',tn i h->(∀b∈fp,∀o,h.get? b=some o->h'.get? b=some o)->tn i h'
 item:∀(X:Cx),X.prog=P->X.w=w->X.K=K->X.calm=true->∀(i:Nat)(pins:List (Addr×Obj))(s:Shared)(σ:St)(H:Hp)(E:Value->Shared->Prop),Inv X pins σ H s->(∀b∈fp,CI X pins H b)->tn i s.heap->J.go i H->
  wpAny (model P w) X.A (pyNext (.ref it)) (λr s1=>∃u,r=some u/\
   wpAny (model P w) X.A (letOwnedTupleGo tg (.ref it) u) (λ_ s2=>∃x H',Inv X pins σ H' s2/\RelV x u/\J.yld i H x H'/\tn (i+1) s2.heap/\∀b∈fp,H' b=none) E s1) E s
 done:∀(X:Cx),X.prog=P->X.w=w->X.K=K->X.calm=true->∀(i:Nat)(pins:List (Addr×Obj))(s:Shared)(σ:St)(H:Hp)(E:Value->Shared->Prop),Inv X pins σ H s->(∀b∈fp,CI X pins H b)->tn i s.heap->J.stop i H->
  wpAny (model P w) X.A (pyNext (.ref it)) (λr s1=>r=none/\Inv X pins σ H s1) E s
 self:∀(A:Around)(i:Nat)(s:Shared)(Q:Value->Shared->Prop)(E:Value->Shared->Prop),tn i s.heap->Q (.ref it) s->wpAny (model P w) A (pyIter (.ref it)) Q E s
abbrev TI:=St->Hp->(It->Hp->Prop)->Prop
def PIE(X:Cx)(pins:List (Addr×Obj))(σ:St)(tg:Expr)(R:It->Hp->Prop)(itv:Value)(s2:Shared):Prop:=
 ∃(it:Addr)(fp:List Addr)(tn:Nat->Heap->Prop)(J:It)(H':Hp),itv=.ref it/\Inv X pins σ H' s2/\Turn X.prog X.w X.K tg J fp it tn/\tn 0 s2.heap/\(∀b∈fp,CI X pins H' b)/\R J H'
def PI(X:Cx)(tg iter:Expr)(wi:TI):Prop:=
 ∀(pins:List (Addr×Obj))(s:Shared)(σ:St)(H:Hp)(R:It->Hp->Prop),Inv X pins σ H s->wi σ H R->
  wpAny (model X.prog X.w) X.A (eval iter X.env) (λv s1=>wpAny (model X.prog X.w) X.A (pyIter v) (PIE X pins σ tg R) X.xe s1) X.xe s
theorem L3{M:Model}{A:Around}{E:Value->Shared->Prop}{s:Shared}{tg:Expr}{it:Addr}{u:Value}{o:Obj}{n:String}{vs:Array Value}{Q:Unit->Shared->Prop}(ho:s.heap.get? it=some o)(hc:o.cls=.type n)(hd:o.data=.fields vs)
  (hn:["enumerate","zip","dict_itemiterator","dict_reverseitemiterator","odict_iterator","itertools.zip_longest","itertools.pairwise"].contains n=false) (hQ:Q () s):wpAny M A (letOwnedTupleGo tg (.ref it) u) Q E s:=by
 unfold letOwnedTupleGo;cases tg <;> first
  |exact ae hQ
  | (cases u <;> first
    |exact ae hQ
    | (refine aa (wpAny_load ho ?_)
       rw[hc,hd]
       show wpAny M A (if(["enumerate","zip","dict_itemiterator","dict_reverseitemiterator","odict_iterator","itertools.zip_longest","itertools.pairwise"].contains n&&vs[0]? == some (rawInt _))=true then _ else _) Q E s
       rw[if_neg (by intro h;rw[hn,Bool.false_and]at h;cases h)];exact ae hQ))
def Itl(K:ah)(a:Addr):It:=
 ⟨λi H=>∃xs x,SqL K H a xs/\xs[i]?=some x,λi H x H'=>H'=H/\∀xs,SqL K H a xs->xs[i]?=some x,λi H=>∃xs,SqL K H a xs/\xs.length<=i⟩
def Itt(K:ah)(a:Addr):It:=
 ⟨λi H=>∃xs x,SqT K H a xs/\xs[i]?=some x,λi H x H'=>H'=H/\∀xs,SqT K H a xs->xs[i]?=some x,λi H=>∃xs,SqT K H a xs/\xs.length<=i⟩
def Itr(lo:Int)(n:Nat):It:=⟨λi _=>i<n,λi H x H'=>H'=H/\x=.int (lo+i),λi _=>n<=i⟩
theorem zO{P:Program}{w:World}{K:ah}{tg:Expr}(a it:Addr):Turn P w K tg (Itl K a) [it] it (λi h=>h.IsListIter it a i) where
 mem:=by simp
 obj:=λi h st b hb=>by
  have e:b=it:=by simpa using hb
  subst e;obtain⟨o,e,c,d⟩:=st;exact⟨o,e,λv z=>by rw[d]at z;cases z⟩
 keep:=λi h h' st k=>st.at λo e=>k it (by simp) o e
 item:=by
  intro X hP hw hK hc i pins s σ H E I hf st hg;subst hP hw hK;obtain⟨xs,x,hq,hx⟩:=hg;obtain⟨its,rv,p,hz⟩:=I.list hq;obtain⟨u,hu,ru⟩:=rv.get hx;obtain⟨f0,f1,f2,f3,f4,f5⟩:=hf it (by simp);refine wpAny_pyNext_list_item st p.isList (x:=u) (by simpa using hu) λh' st' sb=>?_
  have I1:Inv X pins σ H { s with heap:=h' }:=I.turned (t':=s.toks) (λb o hb e=>(sb.2 b hb).trans e) f0 f1 f3 f4 f5;obtain⟨o,e,c,d⟩:=id st';exact⟨u,rfl,L3 (s:={ s with heap:=h' }) e c d (by decide) ⟨x,H,I1,ru,⟨rfl,λys hy=>by rw[I.list_inj hy hq];exact hx⟩,st',λb hb=>(hf b hb).1⟩⟩
 done:=by
  intro X hP hw hK hc i pins s σ H E I hf st hg;subst hP hw hK;obtain⟨xs,hq,hx⟩:=hg;obtain⟨its,rv,p,hz⟩:=I.list hq;obtain⟨f0,f1,f2,f3,f4,f5⟩:=hf it (by simp);have hl:=rv.length;exact wpAny_pyNext_list_end (I.ok.hd hc) st p.isList (by simp;omega) λh' eb=>⟨rfl,I.turned (t':=s.toks) (λb o hb e=>eb b o hb e) f0 f1 f3 f4 f5⟩
 self:=λ_ _ _ _ _ st h=>wpAny_pyIter_listiter st h
theorem EU{P:Program}{w:World}{K:ah}{tg:Expr}(a it:Addr):Turn P w K tg (Itt K a) [it] it (λi h=>h.IsTupleIter it a i) where
 mem:=by simp
 obj:=λi h st b hb=>by
  have e:b=it:=by simpa using hb
  subst e;obtain⟨o,e,c,d⟩:=st;exact⟨o,e,λv z=>by rw[d]at z;cases z⟩
 keep:=λi h h' st k=>st.at λo e=>k it (by simp) o e
 item:=by
  intro X hP hw hK hc i pins s σ H E I hf st hg;subst hP hw hK;obtain⟨xs,x,hq,hx⟩:=hg;obtain⟨its,rv,p,hz⟩:=I.tuple hq;obtain⟨u,hu,ru⟩:=rv.get hx;obtain⟨f0,f1,f2,f3,f4,f5⟩:=hf it (by simp);refine wpAny_pyNext_tuple_item st (show s.heap.IsTuple a its.toArray from p) (x:=u) (by simpa using hu) λh' st' sb=>?_
  have I1:Inv X pins σ H { s with heap:=h' }:=I.turned (t':=s.toks) (λb o hb e=>(sb.2 b hb).trans e) f0 f1 f3 f4 f5;obtain⟨o,e,c,d⟩:=id st';exact⟨u,rfl,L3 (s:={ s with heap:=h' }) e c d (by decide) ⟨x,H,I1,ru,⟨rfl,λys hy=>by rw[I.tuple_inj hy hq];exact hx⟩,st',λb hb=>(hf b hb).1⟩⟩
 done:=by
  intro X hP hw hK hc i pins s σ H E I hf st hg;subst hP hw hK;obtain⟨xs,hq,hx⟩:=hg;obtain⟨its,rv,p,hz⟩:=I.tuple hq;obtain⟨f0,f1,f2,f3,f4,f5⟩:=hf it (by simp);have hl:=rv.length;exact wpAny_pyNext_tuple_end (I.ok.hd hc) st (show s.heap.IsTuple a its.toArray from p) (by simp;omega) λh' eb=>⟨rfl,I.turned (t':=s.toks) (λb o hb e=>eb b o hb e) f0 f1 f3 f4 f5⟩
 self:=λ_ _ _ _ _ st h=>wpAny_pyIter_tupleiter st h
theorem EV{P:Program}{w:World}{K:ah}{tg:Expr}(it:Addr)(lo:Int)(n:Nat):Turn P w K tg (Itr lo n) [it] it (λi h=>IsRangeIter h it (lo+(i:Nat)*1) ((n:Int)-(i:Nat)) 1) where
 mem:=by simp
 obj:=λi h st b hb=>by
  have e:b=it:=by simpa using hb
  subst e;exact⟨_,st,λv z=>by
   have z':Data.fields _=Data.cell v:=z;cases z'⟩
 keep:=λi h h' st k=>k it (by simp) _ st
 item:=by
  intro X hP hw hK hc i pins s σ H E I hf st hg;subst hP hw hK;obtain⟨f0,f1,f2,f3,f4,f5⟩:=hf it (by simp);have W:=Walks.range (prog:=X.prog) (w:=X.w) (I.ok.hd hc) it lo 1 n;refine W.item i s _ _ hg st λv h' tk hv st' kk=>?_;obtain⟨t,rfl⟩:=hv;have I1:Inv X pins σ H { s with heap:=h',toks:=tk }:=I.turned (λb o hb e=>kk b o (by simpa using hb) e) f0 f1 f3 f4 f5
  refine⟨_,rfl,L3 (s:={ s with heap:=h',toks:=tk }) (n:="range_iterator") st' rfl rfl (by decide) ⟨.int (lo+i),H,I1,⟨t,?_⟩,⟨rfl,rfl⟩,st',λb hb=>(hf b hb).1⟩⟩;rw[Int.mul_one]
 done:=by
  intro X hP hw hK hc i pins s σ H E I hf st hg;subst hP hw hK;obtain⟨f0,f1,f2,f3,f4,f5⟩:=hf it (by simp);exact wpAny_pyNext_range_end (I.ok.hd hc) st (by have:n<=i:=hg;omega) λh' eb=>⟨rfl,I.turned (t':=s.toks) (λb o hb e=>eb b o hb e) f0 f1 f3 f4 f5⟩
 self:=λ_ _ _ _ _ st h=>wpAny_pyIter_rangeiter st h
section
variable{X:Cx}{tg:Expr}
theorem L4{pins:List (Addr×Obj)}{σ:St}{H:Hp}{s:Shared}{R:It->Hp->Prop}{E:Value->Shared->Prop}{lo hi:Int}{t u v:Tok}{tk:Nat}(I:Inv X pins σ H s)(h1:-(2 ^ 62)<=lo)(h2:lo<2 ^ 62)(h3:-(2 ^ 62)<=hi)(h4:hi<2 ^ 62)
  (q:R (Itr lo (hi-lo).toNat) H):wpAny (model X.prog X.w) X.A (pyIter (.ref s.heap.objs.size)) (PIE X pins σ tg R) E { s with heap:=s.heap.push { cls:=.type "range",data:=.fields #[.int lo t,.int hi u,.int 1 v] },toks:=tk }:=by
 refine wpAny_pyIter_range (IsRange.new ..) (small_one h1 h2 h3 h4) ?_;have I1:Inv X pins σ H { s with heap:=s.heap.push { cls:=.type "range",data:=.fields #[.int lo t,.int hi u,.int 1 v] },toks:=tk }:=I.kept λb o e=>ag _ e;refine⟨(s.heap.push { cls:=.type "range",data:=.fields #[.int lo t,.int hi u,.int 1 v] }).objs.size,[(s.heap.push { cls:=.type "range",data:=.fields #[.int lo t,.int hi u,.int 1 v] }).objs.size],_,_,H,rfl,
  I1.kept (t':=tk) λb o e=>ag _ e,EV _ lo (hi-lo).toNat,?_,λb hb=>?_,q⟩
 ·have e1:lo+((0:Nat):Int)*1=lo:=by simp
  have e2:(((hi-lo).toNat:Nat):Int)-((0:Nat):Int)=Builtin.Range.rangeSize lo hi 1:=by rw[rangeSize_one];split <;> omega
  show IsRangeIter _ _ (lo+((0:Nat):Int)*1) ((((hi-lo).toNat:Nat):Int)-((0:Nat):Int)) 1
  rw[e1,e2];exact a7 _ rfl
 ·have e:b=(s.heap.push { cls:=.type "range",data:=.fields #[.int lo t,.int hi u,.int 1 v] }).objs.size:=by simpa using hb
  subst e;exact I1.fpOk (ak _) (I1.hok.fresh (ak _))
def Xs(wi:TI)(g:TG)(tb:TS):TS:=λD σ H=>wi σ H λJ H1=>∃W:Nat->Nat->St->Hp->Prop,(∃m,W 0 m σ H1)/\∀i m σ H,W i m σ H->
 (J.stop i H/\D.nx σ H)\/(J.go i H/\∃N:St->Hp->Prop,(∀σ' H',N σ' H'->∃m',m'<m/\W (i+1) m' σ' H')/\∀x H',J.yld i H x H'->g x σ H' λσ2 H2=>tb { D with nx:=N,ct:=N,bk:=D.nx } σ2 H2)
def vC(fp:List Addr)(h:Heap):List (Addr×Obj):=fp.filterMap λb=>(h.get? b).map λo=>(b,o)
theorem iV{fp:List Addr}{h:Heap}{b:Addr}{o:Obj}(hb:b∈fp)(e:h.get? b=some o):(b,o)∈vC fp h:=List.mem_filterMap.mpr ⟨b,hb,by rw[e];rfl⟩
theorem IP{fp:List Addr}{h:Heap}{p:Addr×Obj}(hp:p∈vC fp h):p.1∈fp/\h.get? p.1=some p.2:=by
 obtain⟨b,hb,e⟩:=List.mem_filterMap.mp hp;cases q:h.get? b with
 |none=>rw[q]at e;cases e
 |some o=>
  rw[q]at e;have e':(b,o)=p:=bq e;subst e';exact⟨hb,q⟩
theorem Inv.pinned{pins:List (Addr×Obj)}{σ:St}{H:Hp}{s:Shared}{fp:List Addr}(I:Inv X pins σ H s)(hf:∀b∈fp,CI X pins H b)(ho:∀b∈fp,∃o,s.heap.get? b=some o/\∀v,o.data≠.cell v):Inv X (pins++vC fp s.heap) σ H s:=
 I.pins_of λp hp=>(bh.mp hp).elim (λz=>I.pin p (ao _ z)) λz=>by
  obtain⟨hb,e⟩:=IP z;obtain⟨f0,f1,f2,_⟩:=hf p.1 hb;obtain⟨o,e',d⟩:=ho p.1 hb;rw[e]at e';cases e';exact⟨e,f0,f1,f2,d⟩
theorem Inv.unpinned{pins pl:List (Addr×Obj)}{σ:St}{H:Hp}{s:Shared}(I:Inv X (pins++pl) σ H s):Inv X pins σ H s:=I.pins_of λp hp=>I.pin p (ao _ (ij _ hp))
theorem SH{iter:Expr}{body:List Stmt}{wi:TI}{g:TG}{tb:TS}{pos:Pos}(hp:PassesOwn (model X.prog X.w) X.A X.env X.xe)(hc:X.calm=true)(hi:PI X tg iter wi)(hg:PG X tg g)(hb:PSs X body tb)
  (hs:∀x,ji iter X.env x=pure x:=by intro _;rfl):PS X (.For tg iter body [] pos) (Xs wi g tb):=by
 intro pins s σ H D I h;refine wpAny_For (thn (hi pins s σ H _ I h) λv s1 h1=>thn h1 λitv s2 h2=>?_) hs;obtain⟨it,fp,tn,J,H2,e,I2,T,st2,f2,W,⟨m0,w0⟩,turn⟩:=h2;subst e
 -- what stays true of the iterator's objects through the loop
 have stat:∀{H':Hp},(∀b∈fp,H' b=none)->∀b∈fp,CI X pins H' b:=λhn b hb=>⟨hn b hb,(f2 b hb).2⟩;refine codeAny_forLoop_any (λn s'=>∃i σ' H',Inv X pins σ' H' s'/\tn i s'.heap/\(∀b∈fp,H' b=none)/\W i n σ' H') ?_ m0 ⟨0,σ,H2,I2,st2,λb hb=>(f2 b hb).1,w0⟩;rintro n s3 ⟨i,σ3,H3,I3,st3,fr3,w3⟩;rcases turn i n σ3 H3 w3 with⟨stop,qn⟩|⟨go,N,hN,step⟩
 ·refine wpAny_passesOwn hp (thn (T.done X rfl rfl rfl hc i pins s3 σ3 H3 X.xe I3 (stat fr3) st3 stop) λr s4 ⟨hr,I4⟩=>?_);subst hr;exact wpAny_execs_nil ⟨σ3,H3,I4,qn⟩
 ·refine wpAny_passesOwn hp (thn (T.item X rfl rfl rfl hc i pins s3 σ3 H3 X.xe I3 (stat fr3) st3 go) λr s4 ⟨u,hr,h4⟩=>?_);subst hr;refine wpAny_passesOwn hp (thn h4 λ_ s5 hz=>?_);obtain⟨x,H5,I5,r5,y5,st5,fr5⟩:=hz;have I5':=I5.pinned (stat fr5) (T.obj _ _ st5);refine wpAny_passesOwn hp (thn (hg _ s5 σ3 H5 x u _ I5' r5 (step x H5 y5)) λ_ s6 ⟨σ6,H6,I6,q6⟩=>?_);refine wpAny_passesOwn hp (thn (hb _ s6 σ6 H6 _ I6 q6) λf s7 q7=>?_);have again:∀{σ7:St}{H7:Hp},Inv X (pins++vC fp s5.heap) σ7 H7 s7->N σ7 H7->∃m,m<n/\∃i σ' H',Inv X pins σ' H' s7/\tn i s7.heap/\(∀b∈fp,H' b=none)/\W i m σ' H':=λ{σ7 H7} I7 n7=>by
   obtain⟨m',hm,w7⟩:=hN σ7 H7 n7;refine⟨m',hm,i+1,σ7,H7,I7.unpinned,T.keep _ _ _ st5 λb hb o e=>(I7.pin (b,o) (ao _ (ao _ (iV hb e)))).1,λb hb=>?_,w7⟩;obtain⟨o,e,d⟩:=T.obj _ _ st5 b hb;exact(I7.pin (b,o) (ao _ (ao _ (iV hb e)))).2.1
  cases f with
  |next=>obtain⟨σ7,H7,I7,n7⟩:=q7;exact again I7 n7
  |cont=>obtain⟨σ7,H7,I7,n7⟩:=q7;exact again I7 n7
  |brk=>obtain⟨σ7,H7,I7,q7⟩:=q7;exact⟨σ7,H7,I7.unpinned,q7⟩
  |ret v=>obtain⟨x7,σ7,H7,I7,r7,q7⟩:=q7;exact⟨x7,σ7,H7,I7.unpinned,r7,q7⟩
end
abbrev R2:=V->V->Hp->VK->Prop
def OpR(X:Cx)(f:Value->Value->Sem Value)(r:R2):Prop:=
 ∀(pins:List (Addr×Obj))(s:Shared)(σ:St)(H:Hp)(x y:V)(v u:Value)(Q:VK),Inv X pins σ H s->RelV x v->RelV y u->r x y H Q->
  wpAny (model X.prog X.w) X.A (f v u) (EP X pins σ Q) X.xe s
def UnR(X:Cx)(f:Value->Sem Value)(r:V->Hp->VK->Prop):Prop:=
 ∀(pins:List (Addr×Obj))(s:Shared)(σ:St)(H:Hp)(x:V)(v:Value)(Q:VK),Inv X pins σ H s->RelV x v->r x H Q->
  wpAny (model X.prog X.w) X.A (f v) (EP X pins σ Q) X.xe s
def bO(X:Cx)(f:Value)(r:List V->Hp->VK->Prop):Prop:=
 ∀(pins:List (Addr×Obj))(s:Shared)(σ:St)(H:Hp)(xs:List V)(us:List Value)(Q:VK),Inv X pins σ H s->aO xs us->r xs H Q->
  wpAny (model X.prog X.w) X.A (call f us) (EP X pins σ Q) X.xe s
def Xt(X:Cx)(r:V->Hp->(Bool->Hp->Prop)->Prop):Prop:=
 ∀(pins:List (Addr×Obj))(s:Shared)(σ:St)(H:Hp)(x:V)(v:Value)(Q:Bool->Hp->Prop),Inv X pins σ H s->RelV x v->r x H Q->
  wpAny (model X.prog X.w) X.A (truthy v) (TP X pins σ Q) X.xe s
def tOp(r:R2)(ta tb:TE):TE:=λσ H Q=>ta σ H λx H1=>tb σ H1 λy H2=>r x y H2 Q
def tUn(r:V->Hp->VK->Prop)(ta:TE):TE:=λσ H Q=>ta σ H λx H1=>r x H1 Q
def rI(C:Int->Int->Prop)(g:Int->Int->V):R2:=λx y H Q=>∃i j,x=.int i/\y=.int j/\C i j/\Q (g i j) H
def rI0(g:Int->Int->V):R2:=λx y H Q=>∃i j,x=.int i/\y=.int j/\Q (g i j) H
def rU(g:Int->V):V->Hp->VK->Prop:=λx H Q=>∃i,x=.int i/\Q (g i) H
section
variable{X:Cx}{a b c:Expr}{ta tb tc:TE}{pos:Pos}
theorem SJ(ha:PE X a ta)(hb:PE X b tb){pins:List (Addr×Obj)}{s:Shared}{σ:St}{H:Hp}{R:V->V->Hp->Prop}(I:Inv X pins σ H s)
  (h:ta σ H λx H1=>tb σ H1 λy H2=>R x y H2) {Q:Value->Shared->Prop} {f:Value->Value->Sem Value}
  (hf:∀v u s2 x y H2,Inv X pins σ H2 s2->RelV x v->RelV y u->R x y H2->wpAny (model X.prog X.w) X.A (f v u) Q X.xe s2):
  wpAny (model X.prog X.w) X.A (eval a X.env) (λv s₁=>wpAny (model X.prog X.w) X.A (eval b X.env) (λu s₂=>wpAny (model X.prog X.w) X.A (f v u) Q X.xe s₂) X.xe s₁) X.xe s:=by
 refine thn (ha pins s σ H _ I h) λv s1 hz=>?_;obtain⟨x,H1,I1,r1,q1⟩:=hz;refine thn (hb pins s1 σ H1 _ I1 q1) λu s2 hz=>?_;obtain⟨y,H2,I2,r2,q2⟩:=hz;exact hf v u s2 x y H2 I2 r1 r2 q2
theorem Ve{op:Operator}{r:R2}(ho:OpR X (fv op) r)(ha:PE X a ta)(hb:PE X b tb):PE X (.BinOp a op b pos) (tOp r ta tb):=by
 intro pins s σ H Q I h;exact wpAny_BinOp (SJ ha hb I h λv u s2 x y H2 I2 rx ry q=>ho pins s2 σ H2 x y v u Q I2 rx ry q)
theorem Vf{op:UnaryOp}{r:V->Hp->VK->Prop}(ho:UnR X (unaryOp op) r)(ha:PE X a ta):PE X (.UnaryOp op a pos) (tUn r ta):=by
 intro pins s σ H Q I h;exact UnaryOp_ (thn (ha pins s σ H _ I h) λv s1 ⟨x,H1,I1,r1,q1⟩=>ho pins s1 σ H1 x v Q I1 r1 q1)
theorem opI{f:Value->Value->Sem Value}{C:Int->Int->Prop}{g:Int->Int->Int}
  (rule:∀(i j:Int)(t u:Tok)(s:Shared)(Q:Value->Shared->Prop)(E:Value->Shared->Prop),C i j->Q (.int (g i j) s.toks) { s with toks:=s.toks+1 }->wpAny (model X.prog X.w) X.A (f (.int i t) (.int j u)) Q E s):
  OpR X f (rI C λi j=>.int (g i j)):=by
 intro pins s σ H x y v u Q I rx ry h;obtain⟨i,j,rfl,rfl,hc,q⟩:=h;obtain⟨t,rfl⟩:=rx;obtain⟨t',rfl⟩:=ry;exact rule i j t t' s _ _ hc ⟨.int (g i j),H,I.tok _,⟨_,rfl⟩,q⟩
theorem Vg{f:Value->Value->Sem Value}{g:Int->Int->Int}
  (rule:∀(i j:Int)(t u:Tok)(s:Shared)(Q:Value->Shared->Prop)(E:Value->Shared->Prop),Q (.int (g i j) s.toks) { s with toks:=s.toks+1 }->wpAny (model X.prog X.w) X.A (f (.int i t) (.int j u)) Q E s):
  OpR X f (rI0 λi j=>.int (g i j)):=by
 intro pins s σ H x y v u Q I rx ry h;obtain⟨i,j,rfl,rfl,q⟩:=h;obtain⟨t,rfl⟩:=rx;obtain⟨t',rfl⟩:=ry;exact rule i j t t' s _ _ ⟨.int (g i j),H,I.tok _,⟨_,rfl⟩,q⟩
theorem SK{f:Value->Value->Sem Value}{g:Int->Int->Bool}
  (rule:∀(i j:Int)(t u:Tok)(s:Shared)(Q:Value->Shared->Prop)(E:Value->Shared->Prop),Q (.bool (g i j)) s->wpAny (model X.prog X.w) X.A (f (.int i t) (.int j u)) Q E s):
  OpR X f (rI0 λi j=>.bl (g i j)):=by
 intro pins s σ H x y v u Q I rx ry h;obtain⟨i,j,rfl,rfl,q⟩:=h;obtain⟨t,rfl⟩:=rx;obtain⟨t',rfl⟩:=ry;exact rule i j t t' s _ _ ⟨.bl (g i j),H,I,rfl,q⟩
def L5(i j:Int):Prop:=0<j/\j<1073741824
def IQ(i j:Int):Prop:=0<=j/\j<=1000000/\i.natAbs<2 ^ 64
def CJ(i j:Int):Prop:=(-(2 ^ 64)<i/\i<2 ^ 64)\/(-(2 ^ 64)<j/\j<2 ^ 64)
theorem CJ.ok{i j:Int}(h:CJ i j):IntMulOk i j:=by
 rcases h with⟨h1,h2⟩|⟨h1,h2⟩
 ·exact .of_left (intBits_le_64 h1 h2)
 ·exact .of_right (intBits_le_64 h1 h2)
theorem SL:OpR X (fv .Add) (rI0 λi j=>.int (i+j)):=Vg λ_ _ _ _ _ _ _ q=>add_int q
theorem SM:OpR X (fv .Sub) (rI0 λi j=>.int (i-j)):=Vg λ_ _ _ _ _ _ _ q=>sub_int q
theorem SN:OpR X (fv .Mult) (rI CJ λi j=>.int (i*j)):=opI λ_ _ _ _ _ _ _ hc q=>mul_int q hc.ok
theorem P2:OpR X (fv .FloorDiv) (rI L5 λi j=>.int (i/j)):=opI λi j _ _ _ _ _ hc q=>by
 have h1:(0:Int)<j:=hc.1;have h2:j<1073741824:=hc.2;exact floordiv_int (by omega) (by rw[Int.fdiv_eq_ediv_of_nonneg i (by omega)];exact q) (.inl (PyProof.noPylong_small (by omega)))
theorem SQ:OpR X (fv .Mod) (rI (λ_ j=>0<j) λi j=>.int (i%j)):=opI λi j _ _ _ _ _ hc q=>by
 have h1:(0:Int)<j:=hc;exact mod_int' (by omega) (by rw[Int.fmod_eq_emod_of_nonneg i (by omega)];exact q)
theorem SR:OpR X (fv .Pow) (rI IQ λi j=>.int (i ^ j.toNat)):=opI λ_ _ _ _ _ _ _ hc q=>pow_int_small hc.1 hc.2.1 hc.2.2 q
theorem unI{f:Value->Sem Value}{g:Int->Int}
  (rule:∀(i:Int)(t:Tok)(s:Shared)(Q:Value->Shared->Prop)(E:Value->Shared->Prop),Q (.int (g i) s.toks) { s with toks:=s.toks+1 }->wpAny (model X.prog X.w) X.A (f (.int i t)) Q E s):
  UnR X f (rU λi=>.int (g i)):=by
 intro pins s σ H x v Q I rx h;obtain⟨i,rfl,q⟩:=h;obtain⟨t,rfl⟩:=rx;exact rule i t s _ _ ⟨.int (g i),H,I.tok _,⟨_,rfl⟩,q⟩
theorem SS:UnR X (unaryOp .USub) (rU λi=>.int (-i)):=unI λ_ _ _ _ _ q=>neg_int q
end
section
variable{X:Cx}{a b c:Expr}{ta tb tc:TE}{pos:Pos}
theorem vD{pins:List (Addr×Obj)}{σ:St}{H:Hp}{s:Shared}{Q:VK}{k k':Bool}(I:Inv X pins σ H s)(q:Q (.bl k) H)(e:k=k'):EP X pins σ Q (.bool k') s:=by
 subst e;exact⟨.bl k,H,I,rfl,q⟩
theorem Vh:OpR X (c9 .Lt) (rI0 λi j=>.bl (decide (i<j))):=SK λ_ _ _ _ _ _ _ q=>lt_int q
theorem Vi:OpR X (c9 .LtE) (rI0 λi j=>.bl (decide (i<=j))):=SK λ_ _ _ _ _ _ _ q=>le_int q
theorem Vj:OpR X (c9 .Gt) (rI0 λi j=>.bl (decide (j<i))):=SK λ_ _ _ _ _ _ _ q=>gt_int q
theorem IR:OpR X (c9 .Lt) (λx y H Q=>∃i j,x=.str i/\y=.str j/\Q (.bl (decide (i.cps.toList<j.cps.toList))) H):=by
 intro pins s σ H x y v u Q I rx ry h;obtain⟨i,j,rfl,rfl,q⟩:=h;obtain⟨t,rfl⟩:=rx;obtain⟨t',rfl⟩:=ry;exact lt_str (vD I q rfl)
theorem SU:OpR X (c9 .Is) (λx y H Q=>y=.non/\Q (.bl (decide (x=.non))) H):=by
 intro pins s σ H x y v u Q I rx ry h;obtain⟨rfl,q⟩:=h;cases ry
 refine is_none_gen (vD I q ?_);cases x <;> first
  |(cases rx;rfl)
  |(obtain⟨t,rfl⟩:=rx;rfl)
theorem P3:OpR X (c9 .IsNot) (λx y H Q=>y=.non/\Q (.bl (!decide (x=.non))) H):=by
 intro pins s σ H x y v u Q I rx ry h;obtain⟨rfl,q⟩:=h;cases ry
 refine isnot_none_gen (vD I q ?_);cases x <;> first
  |(cases rx;rfl)
  |(obtain⟨t,rfl⟩:=rx;rfl)
theorem OpR.or{f:Value->Value->Sem Value}{r r':R2}(h:OpR X f r)(h':OpR X f r'):OpR X f (λx y H Q=>r x y H Q\/r' x y H Q):=by
 intro pins s σ H x y v u Q I rx ry q;rcases q with q|q
 ·exact h pins s σ H x y v u Q I rx ry q
 ·exact h' pins s σ H x y v u Q I rx ry q
theorem L6(b:Expr){op:CmpOp}(h:op≠.In:=by decide)(h2:op≠.NotIn:=by decide):behindInMarks op b=false:=by
 have e1:(op == CmpOp.In)=false:=by cases op <;> first|rfl|exact absurd rfl h
 have e2:(op == CmpOp.NotIn)=false:=by cases op <;> first|rfl|exact absurd rfl h2
 cases b <;> simp[behindInMarks,e1,e2]
theorem P4{op:CmpOp}{r:R2}(ho:OpR X (c9 op) r)(ha:PE X a ta)(hb:PE X b tb)(hm:behindInMarks op b=false):PE X (.Compare a [op] [b] pos) (tOp r ta tb):=by
 intro pins s σ H Q I h;exact wpAny_Compare1 (SJ ha hb I h λv u s2 x y H2 I2 rx ry q=>ho pins s2 σ H2 x y v u Q I2 rx ry q) hm
def Vk(t:TE):TT:=λσ H Q=>t σ H λx H'=>∃k,x=.bl k/\Q k H'
def L7(r r':R2)(ta tb tc:TE):TE:=λσ H Q=>ta σ H λx H1=>tb σ H1 λy H2=>r x y H2 λz H3=>∃k,z=.bl k/\
 (if k=true then tc σ H3 λw' H4=>r' y w' H4 Q else Q (.bl false) H3)
theorem L8{op op':CmpOp}{r r':R2}(ho:OpR X (c9 op) r)(ho':OpR X (c9 op') r')(ha:PE X a ta)(hb:PE X b tb)(hc:PE X c tc)
  (hm:lastMarks [op,op'] [b,c]=false:=by with_unfolding_all rfl):PT X (.Compare a [op,op'] [b,c] pos) (Vk (L7 r r' ta tb tc)):=by
 intro pins s σ H Q I h;refine isTrue_chain (thn (ha pins s σ H _ I h) λv s1 ⟨x,H1,I1,r1,q1⟩=>test_link (thn (hb pins s1 σ H1 _ I1 q1) λu s2 ⟨y,H2,I2,r2,q2⟩=>
  thn (ho pins s2 σ H2 x y v u _ I2 r1 r2 q2) λd s3 ⟨z,H3,I3,r3,k,e,q3⟩=>?_)) hm
 subst e;cases r3
 refine iz ?_;cases k with
 |false=>
  obtain⟨k',e',q'⟩:=q3;cases e'
  exact ite_ff ⟨H3,I3,q'⟩
 |true=>
  refine ite_tt (test_last (thn (hc pins s3 σ H3 _ I3 q3) λw' s4 ⟨z',H4,I4,r4,q4⟩=>thn (ho' pins s4 σ H4 y z' u w' _ I4 r2 r4 q4) λd' s5 hz=>?_));obtain⟨z2,H5,I5,r5,k2,e2,q5⟩:=hz;subst e2;cases r5
  exact iz ⟨H5,I5,q5⟩
def EW(K:ah)(x:V)(H:Hp)(k:Bool):Prop:=
 match x with
 |.non=>k=false
 |.bl b=>k=b
 |.int i=>k=(i != 0)
 |.str y=>y.length<=aw/\k=((y.length:Int) != 0)
 |.byt y=>y.size<=aw/\k=((y.size:Int) != 0)
 |.ref p=>(∃xs,SqL K H p xs/\k=!xs.isEmpty)\/(∃xs,SqT K H p xs/\k=!xs.isEmpty)\/∃kvs,H p=some (.dK kvs)/\k=!kvs.isEmpty
 |_=>False
theorem EX{κ:Type}{kvs:List (κ×V)}{vs:List (κ×Value)}(r:KV kvs vs):(!vs.isEmpty)=!kvs.isEmpty:=by
 cases r <;> rfl
theorem vE{xs:List V}{its:List Value}(r:aO xs its):(!its.toArray.isEmpty)=!xs.isEmpty:=by
 cases r <;> simp
theorem nV:(aw:Nat)<2 ^ 63:=by rw[cx];decide
theorem L9:Xt X (λx H Q=>∃k,EW X.K x H k/\Q k H):=by
 intro pins s σ H x v Q I rx h;obtain⟨k,e,q⟩:=h;have hl:=nV;have hs:aw=16777216:=cx;cases x with
 |non=>
  cases rx
  have e':k=false:=e;subst e';exact truthy_none ⟨H,I,q⟩
 |bl b=>
  cases rx
  have e':k=b:=e;subst e';exact iz ⟨H,I,q⟩
 |int i=>
  obtain⟨t,rfl⟩:=rx;have e':k=(i != 0):=e;subst e';exact PySem.P.truthy_int ⟨H,I,q⟩
 |str y=>
  obtain⟨t,rfl⟩:=rx;obtain⟨hy,e'⟩:y.length<=aw/\k=((y.length:Int) != 0):=e;subst e';exact PySem.P.truthy_str (by omega) ⟨H,I.tok _,q⟩
 |byt y=>
  obtain⟨t,rfl⟩:=rx;obtain⟨hy,e'⟩:y.size<=aw/\k=((y.size:Int) != 0):=e;subst e';exact PySem.W.truthy_bytes (by omega) ⟨H,I.tok _,q⟩
 |ref p=>
  cases rx
  have e':(∃xs,SqL X.K H p xs/\k=!xs.isEmpty)\/(∃xs,SqT X.K H p xs/\k=!xs.isEmpty)\/∃kvs,H p=some (.dK kvs)/\k=!kvs.isEmpty:=e;rcases e' with⟨xs,hx,e'⟩|⟨xs,hx,e'⟩|⟨kvs,hx,e'⟩
  ·subst e';obtain⟨its,r,pl,hz⟩:=I.list hx;have hlen:=r.length;exact wpAny_truthy_list pl.isList (by simp only[ar];omega) ⟨H,I.tok _,by rw[vE r];exact q⟩
  ·subst e';obtain⟨its,r,pl,hz⟩:=I.tuple hx;have hlen:=r.length;exact truthy_tuple pl (by simp only[ar];omega) ⟨H,I.tok _,by rw[vE r];exact q⟩
  ·subst e';obtain⟨hz,hS,vs,r,m⟩:kvs.length<=aw/\(p == f6)=false/\∃vs,KV kvs vs/\s.heap.DictOf (bL X.prog X.w) p vs:=I.hok p _ hx;have hlen:kvs.length=vs.length:=fj r;exact wpAny_truthy_dict hS m (by omega) ⟨H,I.tok _,by rw[EX r];exact q⟩
 |_=>exact(show False from e).elim
theorem La(ha:PE X a ta)(he:∀whole,isTrue a X.env whole=(do let v <-whole;standAt a.pos;holding [v] (truthy v))):
  PT X a (λσ H Q=>ta σ H λx H'=>∃k,EW X.K x H' k/\Q k H'):=by
 intro pins s σ H Q I h
 exact isTrue_plain (thn (ha pins s σ H _ I h) λv s1 ⟨x,H1,I1,r1,q1⟩=>L9 pins s1 σ H1 x v Q I1 r1 q1) (he _)
theorem EY:OpR X (fv .Add) (λx y H Q=>∃i j,x=.str i/\y=.str j/\i.length+j.length<=aw/\Q (.str (i++j)) H):=by
 intro pins s σ H x y v u Q I rx ry h;obtain⟨i,j,rfl,rfl,hz,q⟩:=h;obtain⟨t,rfl⟩:=rx;obtain⟨t',rfl⟩:=ry;exact add_str (λt' tk=>⟨.str (i++j),H,I.tok _,⟨_,rfl⟩,q⟩) hz
theorem vals1{x:V}{us:List Value}(r:aO [x] us):∃u,us=[u]/\RelV x u:=by
 cases r with
 |cons r1 r2=>cases r2;exact⟨_,rfl,r1⟩
theorem vals2{x y:V}{us:List Value}(r:aO [x,y] us):∃u w',us=[u,w']/\RelV x u/\RelV y w':=by
 cases r with
 |cons r1 r2=>
  cases r2 with
  |cons r3 r4=>cases r4;exact⟨_,_,rfl,r1,r3⟩
theorem IS(hc:X.calm=true):bO X (.builtin "max") (λxs H Q=>∃i j,xs=[.int i,.int j]/\Q (.int (if j>i then j else i)) H):=by
 intro pins s σ H xs us Q I r h;obtain⟨i,j,rfl,q⟩:=h;obtain⟨u,w',rfl,⟨t,rfl⟩,⟨t',rfl⟩⟩:=vals2 r;refine max_two_ints (I.ok.hd hc) λh' tk k=>⟨_,H,I.kept k,?_,q⟩
 by_cases hj:j>i
 ·rw[if_pos hj,if_pos hj];exact⟨_,rfl⟩
 ·rw[if_neg hj,if_neg hj];exact⟨_,rfl⟩
theorem IT(hc:X.calm=true):bO X (.builtin "min") (λxs H Q=>∃i j,xs=[.int i,.int j]/\Q (.int (if j<i then j else i)) H):=by
 intro pins s σ H xs us Q I r h;obtain⟨i,j,rfl,q⟩:=h;obtain⟨u,w',rfl,⟨t,rfl⟩,⟨t',rfl⟩⟩:=vals2 r;refine min_two_ints (I.ok.hd hc) λh' tk k=>⟨_,H,I.kept k,?_,q⟩
 by_cases hj:j<i
 ·rw[if_pos hj,if_pos hj];exact⟨_,rfl⟩
 ·rw[if_neg hj,if_neg hj];exact⟨_,rfl⟩
def Xu(K:ah)(x:V)(H:Hp)(n:Nat):Prop:=
 match x with
 |.str y=>y.length<=aw/\n=y.length
 |.byt y=>y.size<=aw/\n=y.size
 |.ref p=>(∃xs,SqL K H p xs/\n=xs.length)\/∃xs,SqT K H p xs/\n=xs.length
 |_=>False
theorem Lb:bO X (.builtin "len") (λxs H Q=>∃x n,xs=[x]/\Xu X.K x H n/\Q (.int n) H):=by
 intro pins s σ H xs us Q I r h;obtain⟨x,n,rfl,e,q⟩:=h;obtain⟨u,rfl,rx⟩:=vals1 r;have hl:=nV;have hs:aw=16777216:=cx;cases x with
 |str y=>
  obtain⟨t,rfl⟩:=rx;obtain⟨hy,e'⟩:y.length<=aw/\n=y.length:=e;subst e';exact len_str (by omega) ⟨.int _,H,I.tok _,⟨_,rfl⟩,q⟩
 |byt y=>
  obtain⟨t,rfl⟩:=rx;obtain⟨hy,e'⟩:y.size<=aw/\n=y.size:=e;subst e';exact PySem.W.len_bytes (by omega) ⟨.int _,H,I.tok _,⟨_,rfl⟩,q⟩
 |ref p=>
  cases rx
  have e':(∃xs,SqL X.K H p xs/\n=xs.length)\/∃xs,SqT X.K H p xs/\n=xs.length:=e;rcases e' with⟨xs,hx,e'⟩|⟨xs,hx,e'⟩
  ·subst e';obtain⟨its,r',pl,hz⟩:=I.list hx;have hlen:=r'.length;exact Calls.call_len_list pl.isList (by simp only[ar];omega) ⟨.int xs.length,H,I.tok _,⟨_,by simp only[ar];rw[hlen]⟩,q⟩
  ·subst e';obtain⟨its,r',pl,hz⟩:=I.tuple hx;have hlen:=r'.length;exact len_tuple pl (by simp only[ar];omega) ⟨.int xs.length,H,I.tok _,⟨_,by simp only[ar];rw[hlen]⟩,q⟩
 |_=>exact(show False from e).elim
end
structure Ym(h:Heap)(x dx C:Addr)(mA:Str->Option Value):Prop where
 obj:h.get? x=some (PySem.W.instObj C dx)
 ns:h.Ns1 dx mA
 ne:dx≠x
theorem uK.some_of{v:V}{o:Option Value}(r:uK (some v) o):∃u,o=some u/\RelV v u:=by
 cases o with
 |none=>exact(show False from r).elim
 |some u=>exact⟨u,rfl,r⟩
structure Cls(K:ah)(C:Addr):Prop where
 pg:PySem.W.plainGet K C Str.empty=true
 hd:PySem.W.hasDictIn K C=true
 po:PySem.W.plainOver K C=true
 sa:n3 K (.ref C) "__setattr__" = some (some (.builtin "object.__setattr__"))
structure Con(K:ah)(C:Addr)(f:Str)(v:V)(u:Value):Prop where
 at_:n3 K (.ref C) f=some (some u)
 rel:RelV v u
 get:PySem.W.specialIn K u "__get__" = some none
 cp:PySem.W.copiedNames.contains f=false
structure Yn(K:ah)(C:Addr)(m:Str)(f:Addr):Prop where
 at_:n3 K (.ref C) m=some (some (.ref f))
 fn:PySem.W.isFn K (.ref f)=true
 kp:bp K (.ref f)=true
section
variable{X:Cx}{pins:List (Addr×Obj)}{σ:St}{H:Hp}{s:Shared}{A:Around}{E:Value->Shared->Prop}{Q:Value->Shared->Prop}{c:Value}{b:Bool}
inductive vF(K:ah)(H:Hp):V->Value->Prop where
 |non:vF K H .non (.type "NoneType")
 |bl (x:Bool):vF K H (.bl x) (.type "bool")
 |int (i:Int):vF K H (.int i) (.type "int")
 |str (x:Str):vF K H (.str x) (.type "str")
 |flt (x:UInt64):vF K H (.flt x) (.type "float")
 |lst {a:Addr} {xs:List V} (e:H a=some (.lst xs)):vF K H (.ref a) (.type "list")
 |frz {a:Addr} {o:Obj} {xs:List V} (e:H a=some (.frz o (.lst xs))):vF K H (.ref a) (.type "list")
 |tup {a:Addr} {xs:List V} (e:H a=some (.tup xs)):vF K H (.ref a) (.type "tuple")
 |dK {a:Addr} {kvs:List (Key×V)} (e:H a=some (.dK kvs)):vF K H (.ref a) (.type "dict")
 |dT {a:Addr} {kvs:List (List Key×V)} (e:H a=some (.dT kvs)):vF K H (.ref a) (.type "dict")
 | ins {a C dx:Addr} {fs:List (Str×V)} (e:H a=some (.ins C dx fs)) (cl:Cls K C) (ha:n3 K (.ref C) "__class__" = some (some (.builtin "object.__class__")))
   (hn:PySem.W.specialIn K (.builtin "object.__class__") "__get__" = some (some (.builtin "getset_descriptor.__get__"))) (htk:PySem.W.takesIn K (.builtin "object.__class__")=some true)
   (hm:PySem.W.mroIn K C (.type "object")=some true):vF K H (.ref a) (.ref C)
end
structure fW(k:Nat)(A:Around):Prop where
 hd:A.handled=none
 dp:A.depth+3*k+5<recursionLimit
 un:A.units+16*k+200<cLine
theorem fW.mono{j k:Nat}{A:Around}(r:fW k A)(h:j<=k):fW j A:=⟨r.hd,by have:=r.dp;omega,by have:=r.un;omega⟩
theorem fW.deeper{k:Nat}{A:Around}(r:fW (k+1) A)(env:Env):fW k (A.deeper env):=
 ⟨r.hd,by have:=r.dp;show A.depth+1+3*k+5<_;omega,by have:=r.un;show A.units+3+16*k+200<_;omega⟩
theorem fW.in1{k:Nat}{A:Around}(r:fW (k+1) A):fW k A.in1:=
 ⟨r.hd,by have:=r.dp;show A.depth+3*k+5<_;omega,by have:=r.un;show A.units+1+16*k+200<_;omega⟩
theorem fW.depth{k:Nat}{A:Around}(r:fW k A):A.depth<recursionLimit:=by have:=r.dp;omega
theorem fW.units{k:Nat}{A:Around}(r:fW k A):A.units+64<cLine:=by have:=r.un;omega
def SV:TA:=λ_ H Q=>Q [] H
def Lc(ta:TE)(tr:TA):TA:=λσ H Q=>ta σ H λx H1=>tr σ H1 λxs H2=>Q (x::xs) H2
section
variable{X:Cx}{e:Expr}{es:List Expr}{te:TE}{t:TA}{pos:Pos}
theorem rE:PA X [] SV:=λ_ _ _ _ H Q I h=>Calls.spliced_nil ⟨[],H,I,.nil,h⟩
theorem lY(ha:PE X e te)(hr:PA X es t)(hs:bu (e::es) X.env=(false,eval e X.env)::bu es X.env:=by rfl):PA X (e::es) (Lc te t):=by
 intro pos pins s σ H Q I h;rw[hs]
 show wpAny _ _ (spliced ((false,eval e X.env)::backTo pos (bu es X.env))) _ _ s
 refine Calls.spliced_cons (thn (ha pins s σ H _ I h) λu s1 hz=>?_);obtain⟨x,H1,I1,r1,q1⟩:=hz;exact thn (hr pos pins s1 σ H1 _ I1 q1) λus s2 ⟨xs,H2,I2,r2,q2⟩=>⟨x::xs,H2,I2,.cons r1 r2,q2⟩
def Xv(t:TA):TE:=λσ H Q=>t σ H λxs H1=>xs.length<=aw/\∀p,H1 p=none->Q (.ref p) (upd H1 p (.tup xs))
def Xw(t:TA):TE:=λσ H Q=>t σ H λxs H1=>xs.length<=aw/\∀p,H1 p=none->Q (.ref p) (upd H1 p (.lst xs))
theorem SX{x1}(h:PA X es t):PE X (.Tuple es x1 pos) (Xv t):=by
 intro pins s σ H Q I hq;refine wpAny_Tuple_spliced (thn (h pos pins s σ H _ I hq) λus s1 ⟨xs,H1,I1,r,z,q⟩=>⟨by rw[<-r.length];exact z,?_⟩);have hf:H1 s1.heap.objs.size=none:=I1.hok.fresh (ak _);refine⟨.ref s1.heap.objs.size,upd H1 s1.heap.objs.size (.tup xs),I1.laid (t':=s1.toks) (λb u e=>ag _ e) (ak _) ?_,rfl,q _ hf⟩;exact⟨z,us,r,⟨_,a7 _ rfl,rfl,⟨_,rfl⟩,rfl⟩⟩
theorem SY(h:PA X es t):PE X (.List es pos) (Xw t):=by
 intro pins s σ H Q I hq;refine wpAny_List_spliced (thn (h pos pins s σ H _ I hq) λus s1 ⟨xs,H1,I1,r,z,q⟩=>⟨by rw[<-r.length];exact z,?_⟩);have hf:H1 s1.heap.objs.size=none:=I1.hok.fresh (ak _);refine⟨.ref s1.heap.objs.size,upd H1 s1.heap.objs.size (.lst xs),I1.laid (t':=s1.toks) (λb u e=>ag _ e) (ak _) ?_,rfl,q _ hf⟩;exact⟨z,us,0,r,a7 _ rfl⟩
end
abbrev Sp:=List V->Hp->VK->XK->Prop
abbrev CXT:=List Env->Hp->Shared->XK->Value->Shared->Prop
structure EZ(P:Program)(w:World)(K:ah)(mg:Str->Option Value)(base:Heap)(A:Around)(outer:List Env)(s:Shared)(H:Hp):Prop where
 frames:A.frames=some outer
 mod:Mod K mg base
 bs:∀b o,base.get? b=some o->s.heap.get? b=some o/\H b=none
 bsz:base.objs.size<=s.heap.objs.size
 funs:s.heap.FunFrames base outer
 frf:∀b∈frs outer,H b=none
 hok:HOk P w H s.heap
 bare:AllBare s.gens
def CE(outer:List Env)(P:Program)(w:World)(H:Hp)(s:Shared)(Q:VK)(u:Value)(s':Shared):Prop:=
 ∃v H',s'.os=s.os/\AllBare s'.gens/\Un (frs outer) [] H H' s.heap s'.heap/\HOk P w H' s'.heap/\RelV v u/\Q v H'
def CR(CX:CXT)(outer:List Env)(P:Program)(w:World)(H:Hp)(s:Shared)(Q:VK)(E:XK)(r:Result)(s':Shared):Prop:=
 match r with
 |.ok (.ret u)=>CE outer P w H s Q u s'
 |.ok _=>False
 |.error e=>CX outer H s E e s'
structure aV(P:Program)(w:World)(K:ah)(mg:Str->Option Value)(base:Heap)(CX:CXT)(k:Nat)(f:Addr)(fd:c5)(ps:List Str)(sp:Sp):Prop where
 len:∀vs H Q E,sp vs H Q E->vs.length=ps.length
 run:∀(A:Around)(outer:List Env)(s:Shared)(H:Hp)(args:Args)(us:List Value)(vs:List V)(Q:VK)(E:XK),fW k A->EZ P w K mg base A outer s H->BindsTo s fd args (ps.zip us)->aO vs us->sp vs H Q E->
  codeAny (model P w) A (.call (.ref f) args) (CR CX outer P w H s Q E) s
theorem aV.imp{P:Program}{w:World}{K:ah}{mg:Str->Option Value}{base:Heap}{CX:CXT}{k:Nat}{f:Addr}{fd:c5}{ps:List Str}{sp sp':Sp}(F:aV P w K mg base CX k f fd ps sp)
  (h:∀vs H Q E,sp' vs H Q E->sp vs H Q E):aV P w K mg base CX k f fd ps sp':=
 ⟨λvs H Q E q=>F.len vs H Q E (h _ _ _ _ q),λA outer s H args us vs Q E hr he hb hv hs=>F.run A outer s H args us vs Q E hr he hb hv (h _ _ _ _ hs)⟩
theorem EZ.in1{P:Program}{w:World}{K:ah}{mg:Str->Option Value}{base:Heap}{A:Around}{outer:List Env}{s:Shared}{H:Hp}(e:EZ P w K mg base A outer s H):
  EZ P w K mg base A.in1 outer s H:=⟨e.frames,e.mod,e.bs,e.bsz,e.funs,e.frf,e.hok,e.bare⟩
section
variable{X:Cx}{pins:List (Addr×Obj)}{σ:St}{H:Hp}{s s':Shared}
theorem Inv.env0(I:Inv X pins σ H s):EZ X.prog X.w X.K X.mg X.base X.A X.stack s H:=
 ⟨I.ok.frames,I.ok.mod,I.bs,df I.ok.bsz I.sz,I.stack,I.stkFree,I.hok,I.bare⟩
theorem Inv.after{Q:VK}{u:Value}(I:Inv X pins σ H s)(h:CE X.stack X.prog X.w H s Q u s'):EP X pins σ Q u s':=by
 obtain⟨v,H',os,bare,un,hok,r,q⟩:=h;obtain⟨hh,g,d,t,os'⟩:=s';obtain rfl:os'=s.os:=os;exact⟨v,H',I.call (h':=hh) (g':=g) (d':=d) (t':=t) (ch:=[]) un hok bare (λb z=>absurd z (by simp)),r,q⟩
end
def RZ(sp:Sp)(dvs:List V)(E:XK)(t:TA):TE:=λσ H Q=>t σ H λvs H1=>sp (vs++dvs) H1 Q E
def Binds(K:ah)(fd:c5)(ps:List Str)(ds:List Value):Prop:=
 ∀(s:Shared)(us:List Value),K.In s.heap->(us++ds).length=ps.length->BindsTo s fd ⟨us,[]⟩ (ps.zip (us++ds))
theorem Binds.all{K:ah}{fd:c5}{ps:List Str}(h:∀us:List Value,us.length=ps.length->bindArgs fd ⟨us,[]⟩=pure (ps.zip us)):Binds K fd ps []:=λs us _ hl=>by
 rw[oj]at hl⊢;exact .of_eq (h us hl)
def F0(CX:CXT)(X:Cx)(E:XK):Prop:=∀(pins:List (Addr×Obj))(σ:St)(H:Hp)(s:Shared)(e:Value)(s':Shared),Inv X pins σ H s->CX X.stack H s E e s'->X.xe e s'
section
variable{X:Cx}{CX:CXT}{k:Nat}{f C:Addr}{fd:c5}{ps:List Str}{sp:Sp}{dvs:List V}{ds:List Value}{E:XK}{x m:Str}{p pos apos:Pos}{e o:Expr}{es:List Expr}{ta:TE}{t:TA}
theorem SZ{pins:List (Addr×Obj)}{σ:St}{H:Hp}{s:Shared}{Q:VK}{us:List Value}{vs:List V}(F:aV X.prog X.w X.K X.mg X.base CX k f fd ps sp)(hr:fW k X.A)(hb:Binds X.K fd ps ds)(hd:aO dvs ds)(hx:F0 CX X E)
  (I:Inv X pins σ H s) (r:aO vs us) (h:sp (vs++dvs) H Q E):wpAny (model X.prog X.w) X.A (call (.ref f) us) (EP X pins σ Q) X.xe s:=by
 have r2:aO (vs++dvs) (us++ds):=r.append hd;have hl:(us++ds).length=ps.length:=by rw[<-r2.length];exact F.len _ _ _ _ h
 refine wpAny_call (codeAny_mono (F.run X.A X.stack s H ⟨us,[]⟩ (us++ds) (vs++dvs) Q E hr I.env0 (hb s us I.kIn hl) r2 h) λr s' hq=>?_);cases r with
 |error e=>exact hx pins σ H s e s' I hq
 |ok fl=>
  cases fl with
  |ret u=>exact I.after hq
  |next=>exact iy hq
  |brk=>exact iy hq
  |cont=>exact iy hq
theorem P5(F:aV X.prog X.w X.K X.mg X.base CX k f fd ps sp)(hr:fW k X.A)(hg:Gl X x)(hm:X.mg x=some (.ref f))(hk:bp X.K (.ref f)=true)(hb:Binds X.K fd ps ds)(hd:aO dvs ds)(hx:F0 CX X E)
  (ha:PA X (e::es) t) (hdb:(x == ("__debug__" : Str))=false:=by decide) (he:bu (e::es) X.env=(false,eval e X.env)::bu es X.env:=by rfl) (hpl:(backTo pos (bu es X.env)).any (·.1)=false:=by rfl):
  PE X (.Call (.Name x p) (e::es) [] pos) (RZ sp dvs E t):=by
 intro pins s σ H Q I h;refine jr (uS I hg hm ?_ hdb);refine PySem.W.callWith_K (h₀:=X.base) I.ok.mod.kin hk (thn (ha pos pins s σ H _ I h) λus s1 ⟨vs,H1,I1,r,q⟩=>⟨I1.kIn,?_⟩) he hpl;exact SZ F hr hb hd hx I1 r q
structure Mk(K:ah)(C f:Addr):Prop where
 makes:PySem.W.makesIn K C=true
 init:n3 K (.ref C) "__init__" = some (some (.ref f))
 fn:PySem.W.isFn K (.ref f)=true
 kp:bp K (.ref C)=true
end
section
variable{X:Cx}{CX:CXT}{k:Nat}{f C:Addr}{fd:c5}{ps ks:List Str}{sp:Sp}{E:XK}{x m:Str}{p pos apos kpos:Pos}{e o:Expr}{es:List Expr}{kws:List Keyword}{te ta:TE}{t tk:TA}{nm:Option Str}
structure Xx(K:ah)(fd:c5)(ps ks:List Str)(g:List Value->List Value->List Value)(gV:List V->List V->List V):Prop where
 to:∀(s:Shared)(us ws:List Value),K.In s.heap->(g us ws).length=ps.length->BindsTo s fd ⟨us,ks.zip ws⟩ (ps.zip (g us ws))
 rel:∀{vs:List V}{us:List Value}{zs:List V}{ws:List Value},aO vs us->aO zs ws->aO (gV vs zs) (g us ws)
variable{g:List Value->List Value->List Value}{gV:List V->List V->List V}
end
structure aX(N P:List Str)(sc:Scope):Prop where
 kind:sc.kind=.function
 co:sc.isCoroutine=false
 gen:sc.isGenerator=false
 nd:N.Nodup
 pre:N.take P.length=P
 par:∀x∈P,sc.names.lookup x=some .local\/sc.names.lookup x=some .cell
 nofree:∀y∈sc.names,y.2≠.free
theorem zP{kindOf:Str->Option l8}{x:Str}:∀{binds:List (Str×Value)}{m:Str->Option Value},(∀v,(x,v)∉binds)->bindL kindOf binds m x=m x
 |[],_,_=>rfl
 |(n,v)::r,m,h=>by
  unfold bindL;rw[zP λw hw=>h w (aj _ hw)];split
  ·have:x≠n:=by rintro rfl;exact h v ai
   simp[this]
  ·rfl
theorem zQ{kindOf:Str->Option l8}{x:Str}:∀{binds:List (Str×Value)}{m:Str->Option Value},(∀v,(x,v)∉binds)->bindC kindOf binds m x=m x
 |[],_,_=>rfl
 |(n,v)::r,m,h=>by
  unfold bindC;rw[zQ λw hw=>h w (aj _ hw)];split
  ·rfl
  ·have:x≠n:=by rintro rfl;exact h v ai
   simp[this]
theorem zR{kindOf:Str->Option l8}{x:Str}{v:Value}:∀{P:List Str}{vs:List Value}{i:Nat}{m:Str->Option Value},P.Nodup->P[i]?=some x->vs[i]?=some v->kindOf x=some .local->
  bindL kindOf (P.zip vs) m x=some v
 |[],_,_,_,_,h,_,_=>by simp at h
 |_::_,[],_,_,_,_,h,_=>by simp at h
 |p::P,w::vs,0,m,nd,h1,h2,hk=>by
  simp at h1 h2;subst h1;subst h2
  show bindL kindOf ((p,w)::P.zip vs) m p=_
  unfold bindL;rw[zP λv hv=>(gz.mp nd).1 (List.of_mem_zip hv).1,if_pos hk];simp
 |p::P,w::vs,i+1,m,nd,h1,h2,hk=>by
  show bindL kindOf ((p,w)::P.zip vs) m x=_
  unfold bindL;exact zR (i:=i) (gz.mp nd).2 (by simpa using h1) (by simpa using h2) hk
theorem zS{kindOf:Str->Option l8}{x:Str}{v:Value}:∀{P:List Str}{vs:List Value}{i:Nat}{m:Str->Option Value},P.Nodup->P[i]?=some x->vs[i]?=some v->kindOf x≠some .local->
  bindC kindOf (P.zip vs) m x=some v
 |[],_,_,_,_,h,_,_=>by simp at h
 |_::_,[],_,_,_,_,h,_=>by simp at h
 |p::P,w::vs,0,m,nd,h1,h2,hk=>by
  simp at h1 h2;subst h1;subst h2
  show bindC kindOf ((p,w)::P.zip vs) m p=_
  unfold bindC;rw[zQ λv hv=>(gz.mp nd).1 (List.of_mem_zip hv).1,if_neg hk];simp
 |p::P,w::vs,i+1,m,nd,h1,h2,hk=>by
  show bindC kindOf ((p,w)::P.zip vs) m x=_
  unfold bindC;exact zS (i:=i) (gz.mp nd).2 (by simpa using h1) (by simpa using h2) hk
def start(N:List Str)(vs:List V):St:=vs.map some++cj (N.length-vs.length) none
def F1(CX:CXT)(P:Program)(w:World)(K:ah)(mg:Str->Option Value)(base:Heap)(N:List Str)(qual:Str)(scope:Scope)(f:Addr)(cd:Value)(A:Around)(outer:List Env)(s:Shared)(H:Hp)(E:XK):Cx where
 prog:=P
 w:=w
 K:=K
 mg:=mg
 base:=base
 A:=A.deeper (envOfC qual scope s.heap.objs.size f cd)
 N:=N
 s₀:=s
 H₀:=H
 env:=envOfC qual scope s.heap.objs.size f cd
 outer:=outer
 stack:=envOfC qual scope s.heap.objs.size f cd::outer
 ex:=[]
 calm:=true
 fn:=λ_=>true
 pn:=[]
 xe:=λe s'=>wpAny (model P w) (A.deeper (envOfC qual scope s.heap.objs.size f cd)) (leaving (envOfC qual scope s.heap.objs.size f cd) e) (λ_ s''=>CX outer H s E e s'') (λe' s''=>CX outer H s E e' s'') s'
theorem CK{sc:Scope}{n:Nat}{x:Str}(h:sc.names.lookup x=some .cell):∃c,(ee n sc.names []).lookup x=some c:=by
 have q:=PySem.W.cellsFrom_some sc.names n [] (.inl h);exact Option.isSome_iff_exists.mp q
theorem IU{CX:CXT}{P:Program}{w:World}{K:ah}{mg:Str->Option Value}{base:Heap}{N ps:List Str}{qual:Str}{scope:Scope}{f:Addr}{cd:Value}{A:Around}{outer:List Env}{s s1:Shared}{H:Hp}{E:XK}{us:List Value}{vs:List V}
  (S:aX N ps scope) (hd:A.handled=none) (e0:EZ P w K mg base A outer s H) (hl:vs.length=ps.length) (r:aO vs us)
  (x:InCallC s s.heap.objs.size (bindL (envOfC qual scope s.heap.objs.size f cd).kindOf (ps.zip us) λ_=>none) (ee (s.heap.objs.size+1) scope.names []) (bindC (envOfC qual scope s.heap.objs.size f cd).kindOf (ps.zip us) λ_=>none) s1):
  Inv (F1 CX P w K mg base N qual scope f cd A outer s H E) [] (start N vs) H s1:=by
 have hpl:ps.length<=N.length:=by have:=congrArg List.length S.pre;rw[eu]at this;omega
 obtain⟨h1,tk,rfl,hk⟩:=x.done;have noA:∀b:Addr,b∉(F1 CX P w K mg base N qual scope f cd A outer s H E).ex:=λb z=>absurd (show b∈([]:List Addr) from z) (by simp)
 refine⟨⟨e0.mod,S.kind,rfl,rfl,ak _,λy z c h1 h2=>?_,λy hy=>?_,λy c _ h=>?_,λ_=>hd,Around.frames_deeper e0.frames,.inr ⟨rfl,rfl⟩,λb z=>absurd z (noA b),e0.bs,e0.bsz,λb _ _=>noA b,λb z=>absurd z (noA b),e0.funs,e0.frf⟩,
  rfl,e0.bare,Un.kept hk,⟨_,x.toInCall.ns,λi y v h1 h2 h3=>?_⟩,λy c h=>⟨_,x.cell y c h⟩,e0.hok.fresh (ak _),λy c h=>?_,λp hp=>absurd (show p∈([]:List (Addr×Obj)) from hp) (by simp),e0.hok.kept hk,?_⟩
 ·exact name_of_addr x.apart (k4 h1) (k4 h2)
 ·have hy:scope.names.lookup y=some .cell\/scope.names.lookup y=some .free:=hy;rcases hy with hy|hy
  ·exact CK hy
  ·exact absurd rfl (S.nofree _ (k4 hy))
 ·exact i4 (x.above y c (k4 h))
 ·have hi:i<vs.length:=by
   unfold start at h2
   by_cases hi:i<vs.length
   ·exact hi
   ·rw[ft (by simpa using hi)]at h2
    rw[List.getElem?_replicate]at h2;split at h2 <;> cases h2
  have ha:vs[i]?=some v:=by
   unfold start at h2;rw[d4 (by simpa using hi),au]at h2
   cases e:vs[i]? with
   |none=>rw[e]at h2;cases h2
   |some a=>rw[e]at h2;cases h2;rfl
  obtain⟨u,hu,rv⟩:=r.get ha;have hp:ps[i]?=some y:=by
   rw[<-S.pre,List.getElem?_take_of_lt (by omega)];exact h1
  have ndP:ps.Nodup:=by rw[<-S.pre];exact S.nd.sublist (List.take_sublist _ _)
  refine⟨u,rv,?_⟩;rcases S.par y (cq hp) with k|k
  ·exact .inl ⟨k,zR ndP hp hu k⟩
  ·obtain⟨c,e⟩:=CK (n:=s.heap.objs.size+1) k;refine .inr ⟨.inl k,c,e,?_⟩;have q:=x.cell y c e;rw[zS ndP hp hu (by show scope.names.lookup y≠_;rw[k];decide)]at q;exact q
 ·exact e0.hok.fresh (i4 (x.above y c (k4 h)))
 ·unfold start
  show _=N.length
  rw[fg,af,List.length_replicate];omega
theorem Vl{CX:CXT}{P:Program}{w:World}{K:ah}{mg:Str->Option Value}{base:Heap}{k:Nat}{f:Addr}{name qual:Str}{params:Arguments}{body:List Stmt}{scope:Scope}{dV kV doc pm cdv ct oc:Value}{an od:Option Addr}
  {osl:Array (Option Value)} {N ps:List Str} {sp:Sp} (lk:K.lookup f=some ⟨oc,od,.func (b9 name qual params body scope dV kV doc pm an cdv ct),osl⟩) (hcd:b8 K cdv qual=true) (S:aX N ps scope)
  (len:∀vs H Q E,sp vs H Q E->vs.length=ps.length)
  (hbody:∀(A:Around)(outer:List Env)(s:Shared)(H:Hp)(vs:List V)(Q:VK)(E:XK),fW k (A.deeper (envOfC qual scope s.heap.objs.size f cdv))->sp vs H Q E->
   ∃t,PSs (F1 CX P w K mg base N qual scope f cdv A outer s H E) body t/\t { nx:=λ_ H'=>Q .non H',rt:=Q } (start N vs) H):
  aV P w K mg base CX (k+1) f (b9 name qual params body scope dV kV doc pm an cdv ct) ps sp:=by
 refine⟨len,λA outer s H args us vs Q E hr e0 hb r hsp=>?_⟩;have hl:=len _ _ _ _ hsp;have KX:K.In s.heap:=e0.mod.kin.keeps λb o e=>(e0.bs b o e).1;have lim:s.heap.NoLimit:=e0.mod.nolimit.keeps λb o e=>(e0.bs b o e).1;have hkind:∀y∈ps.zip us,scope.names.lookup y.1=some .local\/(scope.names.lookup y.1=some .cell/\((ee (s.heap.objs.size+1) scope.names []).lookup y.1).isSome=true):=λ⟨n,v⟩ hy=>by
  rcases S.par n (List.of_mem_zip hy).1 with q|q
  ·exact .inl q
  ·exact .inr ⟨q,PySem.W.cellsFrom_some _ _ _ (.inl q)⟩
 refine codeAny_call_function hr.depth (KX _ _ lk) rfl S.co S.gen rfl (PySem.W.codeRec_of KX hcd) (hb _ _ _ _ ?_);refine wpAny_newFunctionEnv_cells S.kind hkind λenv he s1 x=>?_;subst he;refine⟨lim.keeps x.toInCall.keep,codeAny_func ?_⟩;obtain⟨t,ht,hq⟩:=hbody A outer s H vs Q E (hr.deeper _) hsp;have I:Inv (F1 CX P w K mg base N qual scope f cdv A outer s H E) [] (start N vs) H s1:=IU S hr.hd e0 hl r x;refine ix (ht [] s1 (start N vs) H _ I hq) (λfl s' hs=>?_) λe s' hs=>hs;have fin:∀{σ':St}{H':Hp}{v:V}{u:Value},Inv (F1 CX P w K mg base N qual scope f cdv A outer s H E) [] σ' H' s'->RelV v u->Q v H'->CE outer P w H s Q u s':=
  λ{σ' H' v u} J rv q=>⟨v,H',J.os,J.bare,J.base,J.hok,rv,q⟩
 cases fl with
 |ret u=>
  obtain⟨v,σ',H',J,rv,q⟩:=hs;exact fin J rv q
 |next=>
  obtain⟨σ',H',J,q⟩:=hs;exact fin (v:=V.non) (u:=cy) J rfl q
 |brk=>
  obtain⟨_,_,_,q⟩:=hs;exact iy q
 |cont=>
  obtain⟨_,_,_,q⟩:=hs;exact iy q
section
variable{X:Cx}{x:Str}{p pos:Pos}{e:Expr}{es:List Expr}{t:TA}{id T:String}{r:List V->Hp->VK->Prop}
def tCB(r:List V->Hp->VK->Prop)(t:TA):TE:=λσ H Q=>t σ H λvs H1=>r vs H1 Q
theorem CL(hc:bO X (.builtin id) r)(hg:Gl X x)(hm:X.mg x=none)(hv:og x=some (.builtin id))(ha:PA X (e::es) t)(hn:x≠"__name__" := by decide)(hdb:(x == ("__debug__" : Str))=false:=by decide)
  (he:bu (e::es) X.env=(false,eval e X.env)::bu es X.env:=by rfl) (hpl:(backTo pos (bu es X.env)).any (·.1)=false:=by rfl):PE X (.Call (.Name x p) (e::es) [] pos) (tCB r t):=by
 intro pins s σ H Q I h;refine jr (rD I hg hm hv ?_ hn hdb);exact PyProof.Rows.callWith_builtin1 (thn (ha pos pins s σ H _ I h) λus s1 ⟨vs,H1,I1,r1,q1⟩=>hc pins s1 σ H1 vs us Q I1 r1 q1) he hpl
theorem zT(hc:bO X (.type T) r)(hg:Gl X x)(hm:X.mg x=none)(hv:og x=some (.type T))(ha:PA X (e::es) t)(hn:x≠"__name__" := by decide)(hdb:(x == ("__debug__" : Str))=false:=by decide)
  (he:bu (e::es) X.env=(false,eval e X.env)::bu es X.env:=by rfl) (hpl:(backTo pos (bu es X.env)).any (·.1)=false:=by rfl):PE X (.Call (.Name x p) (e::es) [] pos) (tCB r t):=by
 intro pins s σ H Q I h;refine jr (rD I hg hm hv ?_ hn hdb);exact PyProof.Rows.callWith_type1 (thn (ha pos pins s σ H _ I h) λus s1 ⟨vs,H1,I1,r1,q1⟩=>hc pins s1 σ H1 vs us Q I1 r1 q1) he hpl
end
end L2
namespace HT
open PySem PyProof.Rows
section
variable{prog:Program}{w:World}{A:Around}{E:Value->Shared->Prop}{s:Shared}
theorem cat_tup{t b:Addr}{vs ws:List Value}{Q:Value->Shared->Prop}(ht:IsTup s.heap t vs.toArray)(hb:IsTup s.heap b ws.toArray)(hv:vs≠[])
  (h1:ws=[]->Q (.ref t) s) (h2:ws≠[]->Q (.ref s.heap.objs.size) { s with heap:=s.heap.push { cls:=.type "tuple",data:=.seq (vs++ws).toArray } })
  (hsz:vs.length+ws.length<=aw):wpAny (model prog w) A (fv .Add (.ref t) (.ref b)) Q E s:=by
 obtain⟨⟨cls,dd,data,sl⟩,ho,hc,n,hd⟩:=id ht;obtain⟨⟨cls2,dd2,data2,sl2⟩,ho2,hc2,n2,hd2⟩:=id hb;simp only at hc hd hc2 hd2;subst hc hd hc2 hd2;have e:vs.toArray++ws.toArray=(vs++ws).toArray:=by simp
 by_cases hw:ws=[]
 ·exact concat_meets ⟨_,ho,rfl⟩ ⟨_,ho2,rfl⟩ noFill_tuple_add seq_tuple_add PySem.F.slot_tuple_add PySem.F.entry_tuple_add (PySem.F.args_tuple_add_2 _ _)
   (tuple_addW1 t b vs.toArray ws.toArray n n2 dd dd2 sl sl2 (by simpa using hv) (by simp[hw])) ⟨ho,ho2,h1 hw⟩
 ·refine concat_meets ⟨_,ho,rfl⟩ ⟨_,ho2,rfl⟩ noFill_tuple_add seq_tuple_add PySem.F.slot_tuple_add PySem.F.entry_tuple_add (PySem.F.args_tuple_add_2 _ _)
   (tuple_addW2 t b vs.toArray ws.toArray n n2 dd dd2 sl sl2 (by simpa using hv) (by simpa using hw) (by rw[ar,ar];exact hsz)) ⟨ho,ho2,?_⟩
  rw[e];exact h2 hw
def sIx(n d:Nat):Option Int->Nat
 |none=>d
 |some v=>if v<0 then(v+(n:Int)).toNat else min v.toNat n
theorem T1(n d:Nat)(hd:d<=n)(o:Option Int):sIx n d o<=n:=by
 cases o with
 |none=>exact hd
 |some v=>
  show(if v<0 then(v+(n:Int)).toNat else min v.toNat n)<=n
  by_cases hv:v<0
  ·rw[if_pos hv];omega
  ·rw[if_neg hv];exact Nat.min_le_right _ _
theorem Hj(v:Int)(n d:Nat):(if v<0 then max (v+(n:Int)) 0 else min v (n:Int))=((sIx n d (some v):Nat):Int):=by
 show(if v<0 then max (v+(n:Int)) 0 else min v (n:Int))=(((if v<0 then(v+(n:Int)).toNat else min v.toNat n):Nat):Int)
 by_cases hv:v<0
 ·simp only[if_pos hv];omega
 ·simp only[if_neg hv];omega
theorem F2(lo hi:Option Int)(n:Nat):n4 lo hi 1 (n:Int)=(((sIx n 0 lo:Nat):Int),((sIx n n hi:Nat):Int)):=by
 have h1:¬ ((1:Int)<0):=by omega
 unfold n4;simp only[h1,if_false];refine Prod.ext ?_ ?_
 ·cases lo with
  |none=>rfl
  |some v=>exact Hj v n 0
 ·cases hi with
  |none=>rfl
  |some v=>exact Hj v n n
theorem F3(i j:Nat):j4 (i:Int) (j:Int) 1=j-i:=by
 unfold j4;have h1:(1:Int)>0:=by omega
 simp only[h1,if_true,Int.ediv_one];split <;> omega
theorem vG{v:Value}{o:Option Int}{Q:Option Int->Shared->Prop}(p:IsPart v o)(h:Q o s):wpAny (model prog w) A (Builtin.Slice.slicePartIndex v) Q E s:=by
 cases p with
 |none=>exact slicePart_none h
 |int i t=>exact slicePart_int h
theorem sliceApplied_gen{sl:Addr}{vl vu:Value}{lo hi:Option Int}{n:Nat}{Q:Int×Int×Nat->Shared->Prop}(hs:s.heap.IsSliceOf sl vl vu .none)(pl:IsPart vl lo)(pu:IsPart vu hi)
  (h:Q (((sIx n 0 lo:Nat):Int),1,sIx n n hi-sIx n 0 lo) s):wpAny (model prog w) A (Builtin.Slice.sliceApplied (.ref sl) (pure (n:Int))) Q E s:=by
 obtain⟨os,hos,hcs,hds⟩:=id hs;unfold Builtin.Slice.sliceApplied Builtin.Slice.sliceFields;refine aa (aa (wpAny_field hos hds (x:=vl) rfl (aa (wpAny_field hos hds (x:=vu) rfl (aa (wpAny_field hos hds (x:=.none) rfl (ae ?_)))))));refine aa (slicePart_none ?_)
 show wpAny _ _ (if((1:Int) == 0)=true then _ else _) _ _ s
 rw[if_neg (by decide)];refine aa (vG pl (aa (vG pu (aa (ae ?_)))))
 show wpAny _ _ (match n4 lo hi 1 (n:Int) with|(lo,hi)=>pure (lo,(1:Int),j4 lo hi 1)) _ _ s
 rw[F2 lo hi n]
 show wpAny _ _ (pure (((sIx n 0 lo:Nat):Int),(1:Int),j4 ((sIx n 0 lo:Nat):Int) ((sIx n n hi:Nat):Int) 1)) _ _ s
 rw[F3];exact ae h
theorem Ld(xs:Array Value)(i k:Nat):((av k).filterMap λ(m:Nat)=>xs[((i:Int)+(m:Int)*1).toNat]?).toArray=((xs.toList.drop i).take k).toArray:=by
 have e:(λ(m:Nat)=>xs[((i:Int)+(m:Int)*1).toNat]?)=λm=>xs[i+m]?:=by
  funext m
  have:((i:Int)+(m:Int)*1).toNat=i+m:=by omega
  rw[this]
 rw[e];have:=pick_run xs i k;rw[List.filterMap_map]at this;have e2:((λx=>xs[x]?)∘λx=>i+x)=λm=>xs[i+m]?:=rfl;rw[e2]at this;rw[this]
theorem getItem_tuple_cut{t sl:Addr}{items:Array Value}{vl vu:Value}{lo hi:Option Int}{Q:Value->Shared->Prop}(ht:IsTup s.heap t items)(hs:s.heap.IsSliceOf sl vl vu .none)(pl:IsPart vl lo)(pu:IsPart vu hi)
  (hw:¬ (sIx items.size 0 lo=0/\sIx items.size items.size hi=items.size))
  (h:Q (.ref s.heap.objs.size) { s with heap:=s.heap.push { cls:=.type "tuple",data:=.seq ((items.toList.drop (sIx items.size 0 lo)).take (sIx items.size items.size hi-sIx items.size 0 lo)).toArray } })
  (hsz:items.size<=aw):wpAny (model prog w) A (getItem (.ref t) (.ref sl)) Q E s:=by
 have htake:sizeOk (.seq ((items.toList.drop (sIx items.size 0 lo)).take (sIx items.size items.size hi-sIx items.size 0 lo)).toArray):=by
  show((items.toList.drop (sIx items.size 0 lo)).take (sIx items.size items.size hi-sIx items.size 0 lo)).toArray.size<=aw
  rw[ar,eu,List.length_drop,dk];omega
 have hj:sIx items.size items.size hi<=items.size:=T1 _ _ (ak _) hi;obtain⟨os,hos,hcs,hds⟩:=id hs;have hTs:s.TypeIs (.ref sl) "slice" := ⟨os,hos,hcs⟩;unfold getItem
 try with_reducible refine c6 ?_
 first|refine aa (ae ?_)|skip
 refine aa (wpAny_sequenceKey ht.typeIs (by decide) ?_);refine aa (jc (name:=jt "__getitem__") ht.typeIs d5
  (jq d5 ht.typeIs entry_tuple_getitem ?_ (args_tuple_getitem _ _)))
 show wpAny _ _ (nq (.ref t) >>= _) _ _ s
 refine aa (tupleItemsOf_ ht ?_);refine aa (ju hTs ?_);rw[if_pos (by decide)];refine aa (sliceApplied_gen hs pl pu ?_);have hno:¬ ((((sIx items.size 0 lo:Nat):Int) == 0&&(1:Int) == 1&&(sIx items.size items.size hi-sIx items.size 0 lo) == items.size)=true):=by
  intro q;rw[cw,cw]at q;have q1:((sIx items.size 0 lo:Nat):Int)=0:=eq_of_beq q.1.1;have q2:sIx items.size items.size hi-sIx items.size 0 lo=items.size:=eq_of_beq q.2;exact hw ⟨by omega,by omega⟩
 show wpAny _ _ (if(((sIx items.size 0 lo:Nat):Int) == 0&&(1:Int) == 1&&(sIx items.size items.size hi-sIx items.size 0 lo) == items.size)=true then _ else _) _ _ s
 rw[if_neg hno,Ld]
 first
  |exact aa (m:=j8 _) (fm (ae ⟨_,rfl,ae h⟩) htake)
  |exact aa (m:=j8 _) (fm (aa (ae (ae ⟨_,rfl,ae h⟩))) htake)
  |exact aa (aa (m:=j8 _) (fm (ae (ae ⟨_,rfl,ae h⟩)) htake))
  |exact aa (aa (m:=j8 _) (fm (ae ⟨_,rfl,ae h⟩) htake))
end
end HT
namespace L2
open PySem PySem.Spec PyProof.Rows
abbrev TO:=St->Hp->(Option Int->Hp->Prop)->Prop
def PO(X:Cx)(e:Option Expr)(t:TO):Prop:=
 ∀(pins:List (Addr×Obj))(s:Shared)(σ:St)(H:Hp)(Q:Option Int->Hp->Prop),Inv X pins σ H s->t σ H Q->
  wpAny (model X.prog X.w) X.A (evalPart e X.env) (λu s'=>∃o H',Inv X pins σ H' s'/\IsPart u o/\Q o H') X.xe s
def P6:TO:=λ_ H Q=>Q none H
theorem intsAre_of{ns:List Int}:∀{us:List Value},aO (ns.map V.int) us->IntsAre us ns:=by
 induction ns with
 |nil=>intro us r;rw[List.map_nil]at r;cases r;exact .nil
 |cons n ns ih=>
  intro us r;rw[a8]at r;cases r with
  |cons r1 r2=>
   obtain⟨t,e⟩:=r1;subst e;exact .cons n t (ih r2)
section
variable{X:Cx}{e:Expr}{te:TE}{lo hi:Option Expr}{tl th:TO}{pos p2:Pos}
theorem P7:PO X none P6:=by
 intro pins s σ H Q I h;rw[evalPart_none];exact ae ⟨none,H,I,.none,h⟩
def SlR(X:Cx)(r:V->Option Int->Option Int->Hp->VK->Prop):Prop:=
 ∀(pins:List (Addr×Obj))(s:Shared)(σ:St)(H:Hp)(x:V)(v vl vu:Value)(lo hi:Option Int)(sl:Addr)(Q:VK),Inv X pins σ H s->RelV x v->s.heap.IsSliceOf sl vl vu .none->IsPart vl lo->IsPart vu hi->r x lo hi H Q->
  ∃T id,typeLookup (.type T) "__getitem__" = pure (some (.builtin id))/\s.TypeIs v T/\wpAny (model X.prog X.w) X.A (getItem v (.ref sl)) (EP X pins σ Q) X.xe s
theorem SlR.or{r r':V->Option Int->Option Int->Hp->VK->Prop}(h:SlR X r)(h':SlR X r'):SlR X (λx lo hi H Q=>r x lo hi H Q\/r' x lo hi H Q):=by
 intro pins s σ H x v vl vu lo hi sl Q I rx hs pl pu q;rcases q with q|q
 ·exact h pins s σ H x v vl vu lo hi sl Q I rx hs pl pu q
 ·exact h' pins s σ H x v vl vu lo hi sl Q I rx hs pl pu q
def tSl(r:V->Option Int->Option Int->Hp->VK->Prop)(te:TE)(tl th:TO):TE:=λσ H Q=>te σ H λx H1=>tl σ H1 λl H2=>th σ H2 λu H3=>r x l u H3 Q
theorem Le{r:V->Option Int->Option Int->Hp->VK->Prop}(hr:SlR X r)(he:PE X e te)(hl:PO X lo tl)(hu:PO X hi th):PE X (.Subscript e (.Slice lo hi none p2) pos) (tSl r te tl th):=by
 intro pins s σ H Q I h;refine Subscript_ (thn (he pins s σ H _ I h) λv s1 hz=>?_);obtain⟨x,H1,I1,r1,q1⟩:=hz;refine wpAny_Slice (thn (hl pins s1 σ H1 _ I1 q1) λvl s2 ⟨l,H2,I2,pl,q2⟩=>thn (hu pins s2 σ H2 _ I2 q2) λvu s3 hz=>?_);obtain⟨u,H3,I3,pu,q3⟩:=hz;rw[evalPart_none];refine ae ?_;have I4:Inv X pins σ H3 { s3 with heap:=s3.heap.push { cls:=.type "slice",data:=.fields #[vl,vu,.none] } }:=I3.kept (t':=s3.toks) λb ob q=>ag _ q;obtain⟨T,id,hT,ht,hg⟩:=hr pins { s3 with heap:=s3.heap.push { cls:=.type "slice",data:=.fields #[vl,vu,.none] } } σ H3 x v vl vu l u s3.heap.objs.size Q I4 r1 (Heap.IsSliceOf.new ..) pl pu q3
 show wpAny (model X.prog X.w) X.A (subscriptTail e (.Slice lo hi none p2) v (.ref s3.heap.objs.size)) (EP X pins σ Q) X.xe { s3 with heap:=s3.heap.push { cls:=.type "slice",data:=.fields #[vl,vu,.none] } }
 exact tail_any (ops:=[.ref s3.heap.objs.size,v]) ht hT hg (by with_unfolding_all rfl)
def CM(xs:List V)(lo hi:Option Int):List V:=(xs.drop (HT.sIx xs.length 0 lo)).take (HT.sIx xs.length xs.length hi-HT.sIx xs.length 0 lo)
theorem tM(xs:List V)(lo hi:Option Int):(CM xs lo hi).length<=xs.length:=by
 unfold CM;rw[eu,List.length_drop];omega
def Vm(K:ah):V->Option Int->Option Int->Hp->VK->Prop:=λx lo hi H Q=>∃a xs,x=.ref a/\SqT K H a xs/\
 ¬ (HT.sIx xs.length 0 lo=0/\HT.sIx xs.length xs.length hi=xs.length)/\∀p,H p=none->Q (.ref p) (upd H p (.tup (CM xs lo hi)))
theorem T2:SlR X (Vm X.K):=by
 intro pins s σ H x v vl vu lo hi sl Q I rx hs pl pu h;obtain⟨a,xs,rfl,hx,hw,q⟩:=h;cases rx
 obtain⟨its,r,ht,hz⟩:=I.tuple hx;have hlen:its.toArray.size=xs.length:=by rw[ar];exact r.length.symm
 refine⟨"tuple",_,d5.lookup,ht.typeIs,?_⟩;refine HT.getItem_tuple_cut ht hs pl pu (by rw[hlen];exact hw) ?_ (by rw[hlen];exact hz);rw[hlen];refine⟨.ref s.heap.objs.size,_,I.laid (t':=s.toks) (o:=.tup (CM xs lo hi)) (λb ob q=>ag _ q) (ak _) ?_,rfl,q _ (I.hok.fresh (ak _))⟩;exact⟨df (tM xs lo hi) hz,_,(r.drop (HT.sIx xs.length 0 lo)).take (HT.sIx xs.length xs.length hi-HT.sIx xs.length 0 lo),oX.new _ _⟩
def S0(K:ah):R2:=λx y H Q=>∃a b xs ys,x=.ref a/\y=.ref b/\SqT K H a xs/\SqT K H b ys/\xs≠[]/\xs.length+ys.length<=aw/\
 (ys=[]->Q (.ref a) H)/\(ys≠[]->∀p,H p=none->Q (.ref p) (upd H p (.tup (xs++ys))))
theorem aO.nil_iff{xs:List V}{us:List Value}(r:aO xs us):us=[]↔xs=[]:=by
 cases r with
 |nil=>simp
 |cons _ _=>simp
theorem P8:OpR X (fv .Add) (S0 X.K):=by
 intro pins s σ H x y v u Q I rx ry h;obtain⟨a,b,xs,ys,rfl,rfl,ha,hb,hx,hz,q1,q2⟩:=h;cases rx
 cases ry
 obtain⟨its,r1,p1,_⟩:=I.tuple ha;obtain⟨its2,r2,p2,_⟩:=I.tuple hb;refine HT.cat_tup p1 p2 (λz=>hx (r1.nil_iff.mp z)) (λz=>⟨.ref a,H,I,rfl,q1 (r2.nil_iff.mp z)⟩) (λz=>?_) (by rw[<-r1.length,<-r2.length];exact hz);refine⟨.ref s.heap.objs.size,_,I.laid (t':=s.toks) (o:=.tup (xs++ys)) (λb ob q=>ag _ q) (ak _) ?_,rfl,q2 (λw=>z (r2.nil_iff.mpr w)) _ (I.hok.fresh (ak _))⟩;exact⟨by rw[fg];exact hz,_,r1.append r2,oX.new _ _⟩
end
def ixN(n:Nat)(i:Int):Option Nat:=if 0<=i then(if i<n then some i.toNat else none) else if -(n:Int)<=i then some (i+n).toNat else none
def atI{α:Type}(xs:List α)(i:Int):Option α:=(ixN xs.length i).bind λj=>xs[j]?
theorem Hk{n:Nat}{i:Int}{j:Nat}(h:ixN n i=some j):seqIndex? i n=some j/\j<n/\-(n:Int)<=i/\i<n:=by
 unfold ixN at h
 by_cases h0:0<=i
 ·rw[if_pos h0]at h
  by_cases h1:i<n
  ·rw[if_pos h1]at h;have e:i.toNat=j:=bq h;exact⟨by rw[seqIndex_of h0 h1,e],by omega,by omega,h1⟩
  ·rw[if_neg h1]at h;cases h
 ·rw[if_neg h0]at h
  by_cases h1:-(n:Int)<=i
  ·rw[if_pos h1]at h;have e:(i+n).toNat=j:=bq h;exact⟨by rw[seqIndex_neg (by omega) h1,e],by omega,h1,by omega⟩
  ·rw[if_neg h1]at h;cases h
theorem B4{α:Type}{xs:List α}{i:Int}{v:α}(h:atI xs i=some v):∃j,seqIndex? i xs.length=some j/\xs[j]?=some v/\j<xs.length/\-(xs.length:Int)<=i/\i<xs.length:=by
 unfold atI at h;cases e:ixN xs.length i with
 |none=>rw[e]at h;cases h
 |some j=>
  rw[e]at h;obtain⟨h1,h2,h3,h4⟩:=Hk e;exact⟨j,h1,h,h2,h3,h4⟩
def Hl(b:Expr):Prop:=∀o i,subscripted b false o i=operate [o,i] (getItem o i)
def IxR(X:Cx)(r:R2):Prop:=
 ∀(value slice:Expr)(pins:List (Addr×Obj))(s:Shared)(σ:St)(H:Hp)(x y:V)(v u:Value)(Q:VK),Inv X pins σ H s->RelV x v->RelV y u->r x y H Q->
  subscripted slice false v u=operate [v,u] (getItem v u)->wpAny (model X.prog X.w) X.A (subscriptTail value slice v u) (EP X pins σ Q) X.xe s
def MtR(X:Cx)(id:String)(r:V->List V->Hp->VK->Prop):Prop:=
 ∀(pins:List (Addr×Obj))(s:Shared)(σ:St)(H:Hp)(x:V)(xs:List V)(v:Value)(us:List Value)(Q:VK),Inv X pins σ H s->RelV x v->aO xs us->r x xs H Q->
  wpAny (model X.prog X.w) X.A (call (.builtin id) (v::us)) (EP X pins σ Q) X.xe s
section
variable{X:Cx}{a b:Expr}{ta tb:TE}{pos:Pos}
theorem IxR.or{r r':R2}(h:IxR X r)(h':IxR X r'):IxR X (λx y H Q=>r x y H Q\/r' x y H Q):=by
 intro value slice pins s σ H x y v u Q I rx ry q hs;rcases q with q|q
 ·exact h value slice pins s σ H x y v u Q I rx ry q hs
 ·exact h' value slice pins s σ H x y v u Q I rx ry q hs
theorem Vn{r:R2}(hr:IxR X r)(ha:PE X a ta)(hb:PE X b tb)(hs:Hl b):PE X (.Subscript a b pos) (tOp r ta tb):=by
 intro pins s σ H Q I h;exact Subscript_ (SJ ha hb I h λv u s2 x y H2 I2 rx ry q=>hr a b pins s2 σ H2 x y v u Q I2 rx ry q (hs _ _))
def Xy(K:ah):R2:=λx y H Q=>∃p xs i v,x=.ref p/\y=.int i/\SqL K H p xs/\atI xs i=some v/\Q v H
def Xz(K:ah):R2:=λx y H Q=>∃p xs i v,x=.ref p/\y=.int i/\SqT K H p xs/\atI xs i=some v/\Q v H
def XA:R2:=λx y H Q=>∃z i c,x=.str z/\y=.int i/\z.length<=aw/\atI z.cps.toList i=some c/\Q (.str ⟨#[c]⟩) H
theorem P9:IxR X (Xy X.K):=by
 intro value slice pins s σ H x y v u Q I rx ry h hs;obtain⟨p,xs,i,z,rfl,rfl,hq,he,q⟩:=h;cases rx
 obtain⟨t,rfl⟩:=ry;obtain⟨its,r,pl,hz⟩:=I.list hq;obtain⟨j,h1,h2,h3,h4,h5⟩:=B4 he;obtain⟨w,ew,rw'⟩:=r.get h2;have hl:=r.length;have hn:=nV;have fin:EP X pins σ Q w s:=⟨z,H,I,rw',q⟩
 by_cases h0:0<=i
 ·have hj:i.toNat=j:=by
   rw[seqIndex_of h0 h5]at h1;exact bq h1
  exact item_listR pl.isList h0 (by omega) (by rw[hj];simpa using ew) fin hs
 ·have hj:(i+(its.toArray.size:Int)).toNat=j:=by
   rw[seqIndex_neg (by omega) h4]at h1;rw[ar,<-hl];exact bq h1
  exact subscriptTail_builtinR (x:=w) pl.isList.typeIs slot_list_getitem.lookup
   (wpAny_getItem_list_neg (Q:=λr s'=>r=w/\EP X pins σ Q r s') pl.isList (by omega) (by rw[ar] <;> omega) (by omega) (by rw[hj];simpa using ew) ⟨rfl,fin⟩) hs
theorem T3:IxR X (Xz X.K):=by
 intro value slice pins s σ H x y v u Q I rx ry h hs;obtain⟨p,xs,i,z,rfl,rfl,hq,he,q⟩:=h;cases rx
 obtain⟨t,rfl⟩:=ry;obtain⟨its,r,pl,hz⟩:=I.tuple hq;obtain⟨j,h1,h2,h3,h4,h5⟩:=B4 he;obtain⟨w,ew,rw'⟩:=r.get h2;have hl:=r.length;have hn:=nV;have fin:EP X pins σ Q w s:=⟨z,H,I,rw',q⟩;exact subscriptTail_builtinR (x:=w) pl.typeIs slot_tuple_getitem.lookup
  (getItem_tuple (j:=j) (Q:=λr s'=>r=w/\EP X pins σ Q r s') pl (by omega) (by omega) (by rw[ar,<-hl];exact h1) (by simpa using ew) ⟨rfl,fin⟩) hs
theorem T4:IxR X XA:=by
 intro value slice pins s σ H x y v u Q I rx ry h hs;obtain⟨z,i,c,rfl,rfl,hz,he,q⟩:=h;obtain⟨t,rfl⟩:=rx;obtain⟨t',rfl⟩:=ry;obtain⟨j,h1,h2,h3,h4,h5⟩:=B4 he;have hl:z.cps.toList.length=z.length:=by simp[Str.length]
 rw[hl]at h1 h4 h5;have hn:=nV;exact tail_any (typeIs_str s z t) slot_str_getitem.lookup (getItem_str (c:=c) (by
  have e1:decide (i < -(2 ^ 63:Int))=false:=decide_eq_false (by omega);have e2:decide (i >= 2 ^ 63)=false:=decide_eq_false (by omega);rw[e1,e2,Bool.or_false]) (by rw[h1];simpa using h2) ⟨.str ⟨#[c]⟩,H,I.tok _,⟨_,rfl⟩,q⟩) hs
theorem F4(its:List Value)(n j:Nat)(u:Value):cz (·.setIfInBounds j u) { cls:=.type "list",data:=.seq its.toArray n }={ cls:=.type "list",data:=.seq (its.set j u).toArray n }:=by
 simp[cz]
theorem Inv.lst{pins:List (Addr×Obj)}{σ:St}{H:Hp}{s:Shared}{p:Addr}{xs:List V}(I:Inv X pins σ H s)(h:H p=some (.lst xs)):
  ∃(its:List Value)(n:Nat),aO xs its/\s.heap.get? p=some { cls:=.type "list",data:=.seq its.toArray n }/\xs.length<=aw:=by
 obtain⟨z,its,n,r,e⟩:=I.hok p _ h;exact⟨its,n,r,e,z⟩
theorem Inv.lstUpd{pins:List (Addr×Obj)}{σ:St}{H:Hp}{s:Shared}{p:Addr}{xs ys:List V}{its its':List Value}{n n':Nat}{f:Obj->Obj}(I:Inv X pins σ H s)(h:H p=some (.lst xs))
  (ho:s.heap.get? p=some { cls:=.type "list",data:=.seq its.toArray n }) (hf:f { cls:=.type "list",data:=.seq its.toArray n }={ cls:=.type "list",data:=.seq its'.toArray n' }) (r:aO ys its') (hz:ys.length<=aw) (t:Nat):
  Inv X pins σ (upd H p (.lst ys)) { s with heap:=s.heap.update p f,toks:=t }:=by
 have e:(s.heap.update p f).get? p=some { cls:=.type "list",data:=.seq its'.toArray n' }:=by
  rw[jv f ho (by rw[hf] <;> rfl),hf]
 refine I.write (x:=p) (e:=p) (by rw[h];trivial) (.inl rfl) (λb u hb q=>(Heap.get?_update_other _ _ (k0 hb)).trans q) ⟨_,e⟩ ?_;exact⟨hz,its',n',r,e⟩
def Vo:V->V->V->Hp->(Hp->Prop)->Prop:=λo i v H Q=>∃p xs k j,o=.ref p/\i=.int k/\H p=some (.lst xs)/\ixN xs.length k=some j/\Q (upd H p (.lst (xs.set j v)))
theorem set_list:Xq X Vo:=by
 intro pins s σ H o i v ov iv u Q I ro ri rv h;obtain⟨p,xs,k,j,rfl,rfl,hp,hj,q⟩:=h;cases ro
 obtain⟨t,rfl⟩:=ri;obtain⟨its,n,r,ho,hz⟩:=I.lst hp;obtain⟨h1,h2,h3,h4⟩:=Hk hj;have hl:=r.length;have hn:=nV;have I':Inv X pins σ (upd H p (.lst (xs.set j v))) { s with heap:=s.heap.update p (cz (·.setIfInBounds j u)) }:=
  I.lstUpd hp ho (F4 its n j u) (r.set rv j) (by rw[i5];exact hz) s.toks
 by_cases h0:0<=k
 ·have hk:k.toNat=j:=by
   rw[seqIndex_of h0 h4]at h1;exact bq h1
  exact PySem.W.ki_setAt ho h0 (by omega) (by rw[ar,<-hl];exact h4) (by rw[hk];exact⟨_,I',q⟩)
 ·have hk:(k+(its.toArray.size:Int)).toNat=j:=by
   rw[seqIndex_neg (by omega) h3]at h1;rw[ar,<-hl];exact bq h1
  exact PySem.W.ki_setBack ho (by omega) (by rw[ar,<-hl];exact h3) (by omega) (by rw[hk];exact⟨_,I',q⟩)
theorem B5(lo hi:Option Int)(n:Nat):(sliceBounds lo hi none n).1=((HT.sIx n 0 lo:Nat):Int)/\(sliceBounds lo hi none n).2.1=((HT.sIx n n hi:Nat):Int)/\(sliceBounds lo hi none n).2.2=1:=by
 refine⟨?_,?_,rfl⟩
 ·cases lo with
  |none=>simp[sliceBounds,HT.sIx]
  |some i=>
   simp only[sliceBounds,HT.sIx,Option.getD_none,show(1:Int)>0 by decide,if_true]
   by_cases h:i<0
   ·simp only[h,if_true] <;> omega
   ·simp only[h,if_false] <;> omega
 ·cases hi with
  |none=>simp[sliceBounds,HT.sIx]
  |some i=>
   simp only[sliceBounds,HT.sIx,Option.getD_none,show(1:Int)>0 by decide,if_true]
   by_cases h:i<0
   ·simp only[h,if_true] <;> omega
   ·simp only[h,if_false] <;> omega
theorem yS(its:List Value)(lo hi:Option Int):slicePick its.toArray lo hi none=((its.drop (HT.sIx its.length 0 lo)).take (HT.sIx its.length its.length hi-HT.sIx its.length 0 lo)).toArray:=by
 obtain⟨h1,h2,h3⟩:=B5 lo hi its.toArray.size;unfold slicePick;rw[h1,h2,h3];simp only[sliceRange_one,pick_run,ar] <;> rfl
def Vp(K:ah):V->Option Int->Option Int->Hp->VK->Prop:=λx lo hi H Q=>∃a xs,x=.ref a/\SqL K H a xs/\∀p,H p=none->Q (.ref p) (upd H p (.lst (CM xs lo hi)))
theorem Pa:SlR X (Vp X.K):=by
 intro pins s σ H x v vl vu lo hi sl Q I rx hs pl pu h;obtain⟨a,xs,rfl,hx,q⟩:=h;cases rx
 obtain⟨its,r,ht,hz⟩:=I.list hx;have hlen:=r.length;refine⟨"list",_,slot_list_getitem.lookup,ht.isList.typeIs,?_⟩;refine wpAny_getItem_list_slice ht.isList hs pl pu .none (by simp) ?_ (by rw[ar] <;> omega);rw[yS,<-hlen];refine⟨.ref s.heap.objs.size,_,I.laid (t':=s.toks) (o:=.lst (CM xs lo hi)) (λb ob q=>ag _ q) (ak _) ?_,rfl,q _ (I.hok.fresh (ak _))⟩;exact⟨df (tM xs lo hi) hz,_,0,(r.drop (HT.sIx xs.length 0 lo)).take (HT.sIx xs.length xs.length hi-HT.sIx xs.length 0 lo),a7 _ rfl⟩
def tN:V->Bool
 |.non=>true
 |.bl _=>true
 |.int _=>true
 |.str _=>true
 |_=>false
def eqV:V->V->Bool
 |.non,.non=>true
 |.bl a,.bl b=>a == b
 |.bl a,.int b=>(if a then 1 else 0) == b
 |.int a,.bl b=>a == (if b then 1 else 0)
 |.int a,.int b=>a == b
 |.str a,.str b=>a == b
 |_,_=>false
theorem T5{A:Around}{s:Shared}{y x:V}{u v:Value}(ry:RelV y u)(rx:RelV x v)(fy:tN y=true)(fx:tN x=true):SeqAt.EqAt A s u v (eqV y x):=by
 cases y with
 |non=>
  cases ry
  cases x with
  |non=>cases rx;exact SeqAt.EqAt.same _
  |bl b=>cases rx;exact SeqAt.EqAt.none_bool b
  |int b=>obtain⟨t,rfl⟩:=rx;exact SeqAt.EqAt.none_int b t
  |str b=>obtain⟨t,rfl⟩:=rx;exact SeqAt.EqAt.none_str b t
  |_=>exact absurd (show false=true from fx) cb
 |bl a=>
  cases ry
  cases x with
  |non=>cases rx;exact SeqAt.EqAt.bool_none a
  |bl b=>cases rx;exact SeqAt.EqAt.bool_bool a b
  |int b=>obtain⟨t,rfl⟩:=rx;exact SeqAt.EqAt.bool_int a b t
  |str b=>obtain⟨t,rfl⟩:=rx;exact SeqAt.EqAt.bool_str a b t
  |_=>exact absurd (show false=true from fx) cb
 |int a=>
  obtain⟨t',rfl⟩:=ry;cases x with
  |non=>cases rx;exact SeqAt.EqAt.int_none a t'
  |bl b=>cases rx;exact SeqAt.EqAt.int_bool a t' b
  |int b=>obtain⟨t,rfl⟩:=rx;exact SeqAt.EqAt.int_int a t' b t
  |str b=>obtain⟨t,rfl⟩:=rx;exact SeqAt.EqAt.int_str a t' b t
  |_=>exact absurd (show false=true from fx) cb
 |str a=>
  obtain⟨t',rfl⟩:=ry;cases x with
  |non=>cases rx;exact SeqAt.EqAt.str_none a t'
  |bl b=>cases rx;exact SeqAt.EqAt.str_bool a t' b
  |int b=>obtain⟨t,rfl⟩:=rx;exact SeqAt.EqAt.str_int a t' b t
  |str b=>obtain⟨t,rfl⟩:=rx;exact SeqAt.EqAt.str_str a t' b t
  |_=>exact absurd (show false=true from fx) cb
 |_=>exact absurd (show false=true from fy) cb
def eqU(x:V)(u:Value):Bool:=match u with
 |.none=>eqV .non x
 |.bool b=>eqV (.bl b) x
 |.int i _=>eqV (.int i) x
 |.str z _=>eqV (.str z) x
 |_=>false
theorem Lf{x y:V}{u:Value}(r:RelV y u)(f:tN y=true):eqU x u=eqV y x:=by
 cases y with
 |non=>cases r;rfl
 |bl b=>cases r;rfl
 |int i=>obtain⟨t,rfl⟩:=r;rfl
 |str z=>obtain⟨t,rfl⟩:=r;rfl
 |_=>exact absurd (show false=true from f) cb
theorem B6{x:V}:∀{xs:List V}{us:List Value},aO xs us->xs.all tN=true->us.any (eqU x)=xs.any λy=>eqV y x
 |_,_,.nil,_=>rfl
 |y::xs,u::us,.cons r t,f=>by
  rw[jw,cw]at f;rw[k6,k6,Lf r f.1,B6 t f.2]
theorem vH{A:Around}{s:Shared}{x:V}{v:Value}(rx:RelV x v)(fx:tN x=true):∀{xs:List V}{us:List Value},aO xs us->xs.all tN=true->∀u∈us,SeqAt.EqAt A s u v (eqU x u)
 |_,_,.nil,_=>λu hu=>by cases hu
 |y::xs,u::us,.cons r t,f=>λu' hu=>by
  rw[jw,cw]at f;rcases ba.mp hu with rfl|hu
  ·rw[Lf r f.1];exact T5 r rx f.1 fx
  ·exact vH rx fx t f.2 u' hu
def inV(x:V)(xs:List V):Bool:=xs.any λy=>eqV y x
def rIn(K:ah)(neg:Bool):R2:=λx y H Q=>∃p xs,y=.ref p/\(SqL K H p xs\/SqT K H p xs)/\tN x=true/\xs.all tN=true/\Q (.bl (if neg then !inV x xs else inV x xs)) H
theorem B7:OpR X (c9 .NotIn) (rIn X.K true):=by
 intro pins s σ H x y v u Q I rx ry h;obtain⟨p,xs,rfl,hq,fx,fs,q⟩:=h;cases ry
 rcases hq with hq|hq
 ·obtain⟨its,r,pl,hz⟩:=I.list hq;refine SeqAt.notIn_listAt (eqU x) pl.isList (λw hw=>vH rx fx r fs w (by simpa using hw)) ⟨.bl _,H,I,rfl,?_⟩
  rw[show its.toArray.any (eqU x)=its.any (eqU x) by simp,B6 r fs];exact q
 ·obtain⟨its,r,pl,hz⟩:=I.tuple hq;refine SeqAt.notIn_tupleAt (eqU x) pl (λw hw=>vH rx fx r fs w (by simpa using hw)) ⟨.bl _,H,I,rfl,?_⟩
  rw[show its.toArray.any (eqU x)=its.any (eqU x) by simp,B6 r fs];exact q
theorem B8:bO X (.builtin "len") (λxs H Q=>∃p ys,xs=[.ref p]/\(SqL X.K H p ys\/SqT X.K H p ys)/\Q (.int ys.length) H):=by
 intro pins s σ H xs us Q I r h;obtain⟨p,ys,rfl,hq,q⟩:=h;obtain⟨u,rfl,rx⟩:=vals1 r;cases rx
 have hn:=nV;rcases hq with hq|hq
 ·obtain⟨its,r',pl,hz⟩:=I.list hq;have hlen:=r'.length;exact Calls.call_len_list pl.isList (by simp only[ar] <;> omega) ⟨.int ys.length,H,I.tok _,⟨s.toks+1,by rw[ar,hlen]⟩,q⟩
 ·obtain⟨its,r',pl,hz⟩:=I.tuple hq;have hlen:=r'.length;exact len_tuple pl (by simp only[ar] <;> omega) ⟨.int ys.length,H,I.tok _,⟨s.toks+1,by rw[ar,hlen]⟩,q⟩
theorem bO.or{f:Value}{r r':List V->Hp->VK->Prop}(h:bO X f r)(h':bO X f r'):bO X f (λxs H Q=>r xs H Q\/r' xs H Q):=by
 intro pins s σ H xs us Q I rs q;rcases q with q|q
 ·exact h pins s σ H xs us Q I rs q
 ·exact h' pins s σ H xs us Q I rs q
theorem B9:bO X (.type "list") (λxs H Q=>∃p ys,xs=[.ref p]/\(SqL X.K H p ys\/SqT X.K H p ys)/\∀l,H l=none->Q (.ref l) (upd H l (.lst ys))):=by
 intro pins s σ H xs us Q I r h;obtain⟨p,ys,rfl,hq,q⟩:=h;obtain⟨u,rfl,rx⟩:=vals1 r;cases rx
 have fin:∀(its:List Value),aO ys its->ys.length<=aw->∀(h':Heap)(c':Nat),(∀b o',s.heap.get? b=some o'->h'.get? b=some o')->
   h'.get? s.heap.objs.size=some { cls:=.type "list",dict:=none,data:=.seq its.toArray c',slots:=#[] }->EP X pins σ Q (.ref s.heap.objs.size) { s with heap:=h' }:=λits r' hz h' c' kp e=>
  ⟨.ref s.heap.objs.size,_,I.laid (t':=s.toks) kp (ak _) (show cK X.prog X.w _ h' _ (.lst ys) from⟨hz,its,c',r',e⟩),rfl,q _ (I.hok.fresh (ak _))⟩
 rcases hq with hq|hq
 ·obtain⟨its,r',pl,hz⟩:=I.list hq;have hlen:=r'.length;obtain⟨o,ho,hc,n,hd⟩:=pl.isList;exact call_list_seq p (.inl rfl) ho hc hd (λh' c' kp e=>fin its r' hz h' c' kp e) (by simp only[ar] <;> omega)
 ·obtain⟨its,r',pl,hz⟩:=I.tuple hq;have hlen:=r'.length;obtain⟨o,ho,hc,n,hd⟩:=pl;exact call_list_seq p (.inr rfl) ho hc hd (λh' c' kp e=>fin its r' hz h' c' kp e) (by simp only[ar] <;> omega)
theorem yT:bO X (.type "tuple") (λxs H Q=>∃p ys,xs=[.ref p]/\((SqL X.K H p ys/\∀l,H l=none->Q (.ref l) (upd H l (.tup ys)))\/(SqT X.K H p ys/\Q (.ref p) H))):=by
 intro pins s σ H xs us Q I r h;obtain⟨p,ys,rfl,h⟩:=h;obtain⟨u,rfl,rx⟩:=vals1 r;cases rx
 rcases h with⟨hq,q⟩|⟨hq,q⟩
 ·obtain⟨its,r',pl,hz⟩:=I.list hq;have hlen:=r'.length;refine call_tuple_list pl.isList (λh' kp=>?_) (by simp only[ar] <;> omega);have I1:Inv X pins σ H { s with heap:=h' }:=I.kept (t':=s.toks) kp;have I2:Inv X pins σ (upd H h'.objs.size (.tup ys)) { s with heap:=h'.push { cls:=.type "tuple",data:=.seq its.toArray } }:=
   I1.laid (t':=s.toks) (λb o e=>ag _ e) (ak _) (show cK X.prog X.w _ _ _ (.tup ys) from⟨hz,its,r',oX.new _ _⟩)
  exact⟨.ref h'.objs.size,_,I2,rfl,q _ (I1.hok.fresh (ak _))⟩
 ·obtain⟨its,r',pl,hz⟩:=I.tuple hq;exact call_tuple_same pl ⟨.ref p,H,I,rfl,q⟩
def tyV(K:ah)(T:String)(x:V)(H:Hp):Prop:=match x with
 |.str _=>T="str"
 |.int _=>T="int"
 | .ref p=>(T="list" /\ ∃ xs,SqL K H p xs)\/(T="tuple" /\ ∃ o,K.lookup p=some o/\o.cls=.type "tuple" /\ o.dict=none)\/
   (T="dict" /\ ((∃kvs,H p=some (.dK kvs))\/∃kvs,H p=some (.dT kvs)))\/(T="set" /\ ∃S n,H p=some (.set S n))
 |_=>False
theorem T6{pins:List (Addr×Obj)}{σ:St}{H:Hp}{s:Shared}{T:String}{x:V}{v:Value}(I:Inv X pins σ H s)(r:RelV x v)(ty:tyV X.K T x H):
  s.TypeIs v T/\∀a,v=.ref a->∃ob,s.heap.get? a=some ob/\ob.dict=none:=by
 cases x with
 |str z=>
  obtain⟨t,rfl⟩:=r;cases(show T="str" from ty)
  exact⟨typeIs_str s z t,λ_ e=>nomatch e⟩
 |int i=>
  obtain⟨t,rfl⟩:=r;cases(show T="int" from ty)
  exact⟨typeIs_int s i t,λ_ e=>nomatch e⟩
 |ref p=>
  cases r
  rcases ty with⟨rfl,xs,hq⟩|⟨rfl,o,hk,hc,hd⟩|⟨rfl,hk⟩|⟨rfl,S,n,hk⟩
  ·obtain⟨its,_,pl,_⟩:=I.list hq;refine⟨pl.isList.typeIs,λa e=>?_⟩;cases e
   obtain⟨o,n,e,c,hd,_⟩:=pl;exact⟨o,e,hd⟩
  ·refine⟨⟨o,I.kIn p o hk,hc⟩,λa e=>?_⟩;cases e
   exact⟨o,I.kIn _ o hk,hd⟩
  ·have z:∃o,s.heap.get? p=some o/\o.ExactDict:=by
    rcases hk with⟨kvs,hk⟩|⟨kvs,hk⟩
    ·obtain⟨_,_,_,_,o,_,_,e,ex,_⟩:=I.hok p _ hk;exact⟨o,e,ex⟩
    ·obtain⟨_,_,_,_,o,_,_,e,ex,_⟩:=I.hok p _ hk;exact⟨o,e,ex⟩
   obtain⟨o,e,ex⟩:=z;refine⟨⟨o,e,ex.1⟩,λa e2=>?_⟩;cases e2
   exact⟨o,e,ex.2.1⟩
  ·obtain⟨o,_,_,_,e,ex,_⟩:=I.hok p _ hk;refine⟨⟨o,e,ex.1⟩,λa e2=>?_⟩;cases e2
   exact⟨o,e,ex.2.1⟩
 |_=>exact iy ty
def tBM(K:ah)(T:String)(r:V->List V->Hp->VK->Prop)(to:TE)(t:TA):TE:=λσ H Q=>to σ H λx H1=>tyV K T x H1/\t σ H1 λxs H2=>r x xs H2 Q
variable{o e:Expr}{es:List Expr}{to:TE}{t:TA}{name:Str}{apos cpos:Pos}{T id:String}{r:V->List V->Hp->VK->Prop}
theorem Vq(pa:PlainAttrs T)(slot:Slot T name id)(hty:typeOf (.builtin id)=pure (.type "method_descriptor"))(hm:MtR X id r)(ho:PE X o to)(ha:PA X (e::es) t)
  (hbase:attributeBase o name X.env (eval o X.env)=eval o X.env:=by rfl)
  (hfew:((backTo cpos (bu (e::es) X.env)).all (λx=>!x.1)&&(backToKw cpos (keywordEach [] X.env)).all (λx=>x.1.isSome)
   && decide ((e::es).length+([]:List Keyword).length+(if([]:List Keyword).isEmpty then 0 else 1)<30))=true:=by rfl)
  (hline:(apos.endLine == cpos.line)=true:=by rfl) (hs:bu (e::es) X.env=(false,eval e X.env)::bu es X.env:=by rfl) (hplain:(backTo cpos (bu es X.env)).any (·.1)=false:=by rfl):
  PE X (.Call (.Attribute o name apos) (e::es) [] cpos) (tBM X.K T r to t):=by
 intro pins s σ H Q I h;refine wpAny_Call_method_late hbase hfew hline rfl (thn (ho pins s σ H _ I h) λv s1 hz=>?_);obtain⟨x,H1,I1,r1,ty,q1⟩:=hz;obtain⟨h1,h2⟩:=T6 I1 r1 ty;refine⟨T,id,pa,slot,hty,h1,h2,?_⟩;have hA:=ha cpos pins s1 σ H1 _ I1 q1;rw[hs]at hA⊢;refine Calls.callWith_builtin (by show(false || (backTo cpos (bu es X.env)).any (·.1))=false;rw[hplain] <;> rfl) (Calls.evalArgs_plain ?_);exact thn hA λus s2 ⟨vs,H2,I2,r2,q2⟩=>hm pins s2 σ H2 x vs v us Q I2 r1 r2 q2
end
def MtM(X:Cx)(id:String)(r:V->List V->Hp->VK->Prop):Prop:=
 ∀(pins:List (Addr×Obj))(s:Shared)(σ:St)(H:Hp)(x:V)(xs:List V)(v:Value)(us:List Value)(Q:VK),Inv X pins σ H s->RelV x v->aO xs us->r x xs H Q->
  wpAny (model X.prog X.w) X.A (call (.builtin id) (v::us)) (EP X pins σ Q) X.xe s
theorem aO.one:∀{x:V}{us:List Value},aO [x] us->∃u,us=[u]/\RelV x u
 |_,_,.cons r .nil=>⟨_,rfl,r⟩
section
variable{X:Cx}{pins:List (Addr×Obj)}{σ:St}{H:Hp}{s:Shared}{l b:Addr}{xs ys zs:List V}
theorem Inv.lset{its its':List Value}{n:Nat}{f:Array Value->Array Value}{t':Nat}(I:Inv X pins σ H s)(hH:H l=some (.lst xs))
  (e:s.heap.get? l=some { cls:=.type "list",data:=.seq its.toArray n }) (hf:f its.toArray=its'.toArray) (hv:aO ys its') (hz:ys.length<=aw):
  Inv X pins σ (upd H l (.lst ys)) { s with heap:=s.heap.update l (cz f),toks:=t' }:=by
 have q:=PySem.IsL.update e f;rw[hf]at q;refine I.write (x:=l) (e:=l) (by rw[hH];exact trivial) (.inl rfl) (λb' u hb hu=>(Heap.get?_update_other s.heap (cz f) (k0 hb)).trans hu) ⟨_,q⟩ ?_;exact⟨hz,its',_,hv,q⟩
theorem Inv.lnew{its:List Value}{t':Nat}(I:Inv X pins σ H s)(hv:aO ys its)(hz:ys.length<=aw):
  Inv X pins σ (upd H s.heap.objs.size (.lst ys)) { s with heap:=s.heap.push { cls:=.type "list",data:=.seq its.toArray },toks:=t' }:=
 I.laid (λ_ _ q=>ag _ q) (ak _) ⟨hz,its,0,hv,a7 _ rfl⟩
theorem Inv.fresh(I:Inv X pins σ H s):H s.heap.objs.size=none:=I.hok.fresh (ak _)
theorem Inv.lstM(I:Inv X pins σ H s)(hH:H l=some (.lst xs)):xs.length<=aw/\∃(its:List Value)(n:Nat),aO xs its/\xs.length=its.length/\s.heap.get? l=some { cls:=.type "list",data:=.seq its.toArray n }:=by
 obtain⟨z,its,n,r,e⟩:=I.hok l _ hH;exact⟨z,its,n,r,r.length,e⟩
end
section
variable{X:Cx}
def Hn:V->List V->Hp->VK->Prop:=λx vs H Q=>∃l xs y,x=.ref l/\vs=[y]/\H l=some (.lst xs)/\xs.length<aw/\Q .non (upd H l (.lst (xs++[y])))
theorem zU:MtM X "list.append" Hn:=by
 intro pins s σ H x vs v us Q I rx rv h;obtain⟨l,xs,y,rfl,rfl,hH,hz,q⟩:=h;cases rx
 obtain⟨u,rfl,ru⟩:=rv.one;obtain⟨z,its,n,r,hl,e⟩:=I.lstM hH;refine call_meets F.slot_list_append ⟨_,e,rfl⟩ F.entry_list_append (F.args_list_append_2 _ _) (PySem.list_append l its.toArray n u (by rw[ar];omega)) ⟨e,?_⟩;refine⟨.non,_,I.lset (its':=its++[u]) hH e (by simp) (r.append (.cons ru .nil)) ?_,rfl,q⟩;rw[fg,List.length_singleton];omega
def Vr:R2:=λx y H Q=>∃l b xs zs,x=.ref l/\y=.ref b/\H l=some (.lst xs)/\H b=some (.lst zs)/\xs.length+zs.length<=aw/\∀p,H p=none->Q (.ref p) (upd H p (.lst (xs++zs)))
theorem T7:OpR X (fv .Add) Vr:=by
 intro pins s σ H x y v u Q I rx ry h;obtain⟨l,b,xs,zs,rfl,rfl,hH,hB,hz,q⟩:=h;cases rx
 cases ry
 obtain⟨z,its,n,r,hl,e⟩:=I.lstM hH;obtain⟨z2,its2,n2,r2,hl2,e2⟩:=I.lstM hB;refine PySem.P.add_list e e2 ?_ (by rw[ar,ar];omega);have ea:its.toArray++its2.toArray=(its++its2).toArray:=by simp
 rw[ea];exact⟨.ref _,_,I.lnew (t':=s.toks) (r.append r2) (by rw[fg];omega),rfl,q _ I.fresh⟩
end
end L2
namespace Att
open PySem PySem.W PySem.Calls PyProof.Rows
theorem uL{P:Params}{h:Heap}:∀(ns:List Int)(vs:List Value),WellAll P h vs (ns.map WData.int)->IntsAre vs ns:=by
 intro ns
 induction ns with
 |nil=>
  intro vs w;rw[List.map_nil]at w;cases w
  exact .nil
 |cons n ns ih=>
  intro vs w;rw[a8]at w;cases w with
  |cons a b=>
   cases a
   exact .cons _ _ (ih _ b)
theorem IV{l:OpenLaw}{n:Nat}(hn:l.most=some n){P:Params}{h:Heap}{args:List WData}{vals:List Value}
  (hpre:l.row.toRowW.claim.pre args=true) (hwl:WellAll P h vals args):
  ∃a vs ns,vals=[c3 a]/\args=[WData.list (ns.map WData.int)]/\h.get? a=some { cls:=.type "list",data:=.seq vs.toArray }/\IntsAre vs ns/\ns.length<=n:=by
 have hsh:WShape.hasAll [] args [.list .int]=true:=(pre_splitW hpre).1;have hc:l.pre.holds [] { args:=args }=true:=(pre_splitW hpre).2;obtain⟨d,r,rfl,h1,h2⟩:=hasAllW_cons hsh;obtain rfl:=hasAllW_nil h2;obtain⟨xs,rfl,h3⟩:=hasW_list h1;obtain⟨ns,rfl⟩:=items_int h3;have hlen:ns.length<=n:=by
  unfold OpenLaw.pre at hc;have h4:(WTm.not (.lt (.lit (.int (n:Int))) (.len (.arg 0)))).holds [] { args:=[.list (ns.map .int)] }=true:=by
   have h4:=(holds_andW hc).1;rw[hn]at h4;exact h4
  have h5:=condW_of h4 (w_not (w_lt w_lit (w_len_list (w_arg rfl))));rw[af]at h5;refine Nat.le_of_not_lt λq=>?_;have q':(n:Int)<((ns.length:Nat):Int):=by omega
  first
   |(rw[decide_eq_true q']at h5;exact absurd h5 (by decide))
   |(simp at h5;omega)
 cases hwl with
 |cons w1 w2=>
  cases w2
  cases w1 with
  |list ho hall=>exact⟨_,_,ns,rfl,rfl,ho,uL ns _ hall,hlen⟩
theorem IW(l:OpenLaw)(args:List WData):l.row.toRowW.claim.post args (.bool true) args=true:=
 postW_of (r:=l.row.toRowW) (X:=(true == true))
  (show WShape.has [] (.bool true) .bool=true by first|rfl|decide|simp[WShape.has,WShape.arms,WShape.armsAll])
  (show(WTm.eq .res (.lit (.bool true))).value [] { args:=args,res:=some (.bool true),after:=args }=some (.bool (true == true)) from w_eq_bool (w_res rfl) w_lit) rfl
theorem attach_call{l:OpenLaw}{n:Nat}{q:Program}{loose:List Str}{XP:(Str->Option Value)->Heap->Prop}{YP:World->Heap->Prop}{d:DefRec}
  (hn:l.most=some n) (hdf:d.params.defaults=[])
  (call:∀(w:World)(s₀ s₁:Shared)(mg mb:Str->Option Value)(fa:Addr)(o:Obj)(pm cd doc:Value)(a:Addr)(vs:List Value)(ns:List Int),
   Ground q loose [] XP w s₀ mg mb s₁.heap->YP w s₁.heap->
   s₁.heap.get? fa=some o->o.data=.func (docDef d.name d.params d.body d.scope pm cd doc)->s₁.heap.CodeRec cd d.name->mg d.name=some (.ref fa)->
   s₁.heap.get? a=some { cls:=.type "list",data:=.seq vs.toArray }->IntsAre vs ns->ns.length<=n->s₁.gens=#[]->
   codeAny (model l.prog w) callerA (.call (.ref fa) ⟨[.ref a],[]⟩) (λr s'=>r=.ok (.ret (.bool true))/\OldK s₁.heap s'.heap/\s'.os=s₁.os/\AllBare s'.gens) s₁):
  WalkO q loose XP YP l.row.toRowW d [] (λf vs=>PySem.call f vs):=by
 intro w s₀ s₁ mg mb G Y fa o pm cd doc dV kV ho hd hcd hD hmg hg args vals as hpre hlay hrd hwl hlo;obtain rfl:dV=.none:=Dflts.none hD hdf;obtain rfl:kV=.none:=Dflts.noKw hD;obtain⟨a,vs,ns,rfl,rfl,hobj,hints,hlen⟩:=IV hn hpre hwl;refine enter_call (codeAny_mono (call w s₀ s₁ mg mb fa o pm cd doc a vs ns G Y ho (fd_plain hd) hcd hmg hobj hints hlen hg) λr s' hq=>?_);obtain⟨rfl,h2,h3,h4⟩:=hq;exact⟨.inl ⟨.bool true,.bool true,[],rfl,λ_=>rfl,.bool true,IW l _,λ_=>⟨o6,λ_ hm=>(nomatch hm)⟩⟩,h2,h3,h4⟩
end Att
namespace L2
open PySem PySem.Spec PyProof.Rows
theorem zV:∀{vs:List Value}{ns:List Int},IntsAre vs ns->aO (ns.map V.int) vs
 |_,_,.nil=>.nil
 |_,_,.cons n t h=>.cons ⟨t,rfl⟩ (zV h)
def Lg(H:Hp):Prop:=∀b,H b=none\/∃o xs,H b=some (.frz o (.lst xs))
theorem Lh{P:Program}{w:World}{K:ah}{mg mb:Str->Option Value}{CX:CXT}{k:Nat}{fa a:Addr}{fd:c5}{x:Str}{sp:Sp}{s₁:Shared}{vs:List Value}{ns:List Int}
  (KX:K.In s₁.heap) (hns:s₁.heap.Ns cg mg) (hb:s₁.heap.Ns builtinsNs mb) (hbb:∀x:Str,x≠"__name__" -> mb x=og x) (hlim:s₁.heap.NoLimit) (hg:s₁.gens=#[])
  (ha:s₁.heap.get? a=some { cls:=.type "list",data:=.seq vs.toArray }) (hi:IntsAre vs ns) (hl:ns.length<=aw) (hr:fW k callerA)
  (F:∀base:Heap,K.In base->base.Ns cg mg->aV P w K mg base CX k fa fd [x] sp) (hbind:∀(s:Shared)(u:Value),BindsTo s fd ⟨[u],[]⟩ [(x,u)])
  (hsp:∀H:Hp,Lg H->SqL K H a (ns.map V.int)->sp [.ref a] H (λv _=>v=.bl true) λ_ _ _=>False)
  (hCX:∀H e s',CX [] H s₁ (λ_ _ _=>False) e s'->False):
  codeAny (model P w) callerA (.call (.ref fa) ⟨[.ref a],[]⟩) (λr s'=>r=.ok (.ret (.bool true))/\OldK s₁.heap s'.heap/\s'.os=s₁.os/\AllBare s'.gens) s₁:=by
 have rv:=zV hi;have lenV:=hi.length
 -- from an abstract heap in which nothing but the script may be tracked
 have core:∀H:Hp,Lg H->SqL K H a (ns.map V.int)->HOk P w H s₁.heap->(∀b,H b≠none->b=a)->(H a≠none->K.lookup a=none)->
   codeAny (model P w) callerA (.call (.ref fa) ⟨[.ref a],[]⟩) (λr s'=>r=.ok (.ret (.bool true))/\OldK s₁.heap s'.heap/\s'.os=s₁.os/\AllBare s'.gens) s₁:=by
  intro H hO hS hok hA hK;have base_of:∀{b:Addr}{o:Obj},s₁.heap.get? b=some o->H b=none->(B3 s₁.heap H).get? b=some o:=λe n=>KU e n;have noA:∀{b:Addr}{o:Obj}{es:Array DictEntry}{ep:Nat},s₁.heap.get? b=some o->o.data=.dict es ep->H b=none:=λ{b o es ep} e d=>by
   cases q:H b with
   |none=>rfl
   |some u=>
    have e':b=a:=hA b (by rw[q];simp);subst e';rw[ha]at e;cases e;have d':Data.seq vs.toArray _=Data.dict es ep:=d;cases d'
  have nsK:∀{b:Addr}{m:Str->Option Value},s₁.heap.Ns b m->(B3 s₁.heap H).Ns b m:=λ{b m} ⟨o,es,ep,e,d,r⟩=>⟨o,es,ep,base_of e (noA e d),d,r⟩;have hKb:K.In (B3 s₁.heap H):=λb o e=>base_of (KX b o e) (by
   cases q:H b with
   |none=>rfl
   |some u=>
    have e':b=a:=hA b (by rw[q];simp);subst e';rw[hK (by rw[q];simp)]at e;cases e)
  have hM:Mod K mg (B3 s₁.heap H):=⟨hKb,nsK hns,⟨mb,nsK hb,hbb⟩,let ⟨mc,h1,h2⟩:=hlim;⟨mc,nsK h1,h2⟩⟩;have e0:EZ P w K mg (B3 s₁.heap H) callerA [] s₁ H:=⟨rfl,hM,λb o e=>OU e,Nat.le_of_eq (IM _ _),trivial,λb hb=>absurd (show b∈([]:List Addr) from hb) (by simp),hok,.of_eq hg⟩
  refine codeAny_mono ((F _ hKb (nsK hns)).run callerA [] s₁ H ⟨[.ref a],[]⟩ [.ref a] [.ref a] _ _ hr e0 (hbind s₁ (.ref a)) (.cons rfl .nil) (hsp H hO hS)) λr s' h=>?_;cases r with
  |error e=>exact(hCX H e s' h).elim
  |ok fl=>
   cases fl with
   |next=>exact iy h
   |brk=>exact iy h
   |cont=>exact iy h
   |ret u=>
    obtain⟨v,H',os,bare,un,hok',r',q⟩:=h;have q':v=.bl true:=q;subst q';obtain rfl:u=Value.bool true:=r';refine⟨rfl,OldK.of_keep λb o e=>?_,os,bare⟩;cases q:H b with
    |none=>exact un.keep b o e q (by intro z;exact absurd (show b∈([]:List Addr) from z) (by simp)) (by simp)
    |some u=>
     rcases hO b with z|⟨ob,xs,z⟩
     ·rw[q]at z;cases z
     ·have z2:=un.frzs b ob _ z;obtain⟨e1,_⟩:=hok b _ z;obtain⟨e2,_⟩:=hok' b _ z2;rw[e]at e1;cases e1;exact e2
 cases hk:K.lookup a with
 |some o=>
  -- the script is one of the module's own objects
  have e:=KX a o hk;rw[ha]at e;cases e
  refine core (λ_=>none) (λ_=>.inl rfl) (.inr ⟨_,vs.toArray,_,hk,rfl,rfl,rfl,by rw[ar,lenV];exact hl,by simpa using rv⟩) (λb u z=>by have z':(none:Option HO)=some u:=z;cases z') (λb z=>absurd rfl z) λz=>absurd rfl z
 |none=>
  refine core (λb=>if b=a then some (.frz { cls:=.type "list",data:=.seq vs.toArray } (.lst (ns.map V.int))) else none) (λb=>?_) (.inl (.inr ⟨{ cls:=.type "list",data:=.seq vs.toArray },if_pos rfl⟩)) (λb u z=>?_) (λb z=>?_) λ_=>hk
  ·by_cases hb:b=a
   ·exact .inr ⟨_,_,if_pos hb⟩
   ·exact .inl (if_neg hb)
  ·by_cases hb:b=a
   ·have z':=(if_pos hb).symm.trans z;cases z'
    subst hb;exact⟨ha,by rw[af];exact hl,vs,_,rv,ha⟩
   ·have z':=(if_neg hb).symm.trans z;cases z'
  ·by_cases hb:b=a
   ·exact hb
   ·exact absurd (if_neg hb) z
theorem walk_of{l:PySem.W.OpenLaw}{n k:Nat}{q:Program}{loose:List Str}{XP:(Str->Option Value)->Heap->Prop}{YP:World->Heap->Prop}{d:DefRec}{K:Params->ah}{CX:World->CXT}{sp:World->Sp}{x:Str}
  (hn:l.most=some n) (hn2:n<=aw) (hdf:d.params.defaults=[]) (hr:fW k callerA)
  (hY:∀(w:World)(h:Heap),YP w h->(K w.params).In h)
  (F:∀(w:World)(mg:Str->Option Value)(fa:Addr)(h:Heap),(K w.params).In h->h.Ns cg mg->mg d.name=some (.ref fa)->
   ∃fd:c5,(∀(s:Shared)(u:Value),BindsTo s fd ⟨[u],[]⟩ [(x,u)])/\
    ∀base:Heap,(K w.params).In base->base.Ns cg mg->aV l.prog w (K w.params) mg base (CX w) k fa fd [x] (sp w))
  (hsp:∀(w:World)(H:Hp)(a:Addr)(ns:List Int),ns.length<=n->Lg H->SqL (K w.params) H a (ns.map V.int)->sp w [.ref a] H (λv _=>v=.bl true) λ_ _ _=>False)
  (hCX:∀(w:World)(H:Hp)(s:Shared)(e:Value)(s':Shared),CX w [] H s (λ_ _ _=>False) e s'->False):
  PySem.W.WalkO q loose XP YP l.row.toRowW d [] (λf vs=>PySem.call f vs):=by
 refine Att.attach_call hn hdf λw s₀ s₁ mg mb fa o pm cd doc a vs ns G Y ho hd hcd hmg hobj hints hlen hg=>?_;have KX:=hY w _ Y;obtain⟨fd,hb,hF⟩:=F w mg fa _ KX G.T.g hmg;exact Lh KX G.T.g G.T.b G.T.builtins G.T.nolimit hg hobj hints (df hlen hn2) hr hF hb (λH hO hS=>hsp w H a ns hlen hO hS) λH e s'=>hCX w H s₁ e s'
def aR(s:Stmt):Arguments:=match s with
 |.FunctionDef _ a _ _ _ _ _ _ _ _=>a
 |_=>{ posonlyargs:=[],args:=[],vararg:=none,kwonlyargs:=[],kw_defaults:=[],kwarg:=none,defaults:=[] }
def aP(s:Stmt):List Stmt:=match s with
 |.FunctionDef _ _ b _ _ _ _ _ _ _=>b
 |_=>[]
def aE(s:Stmt):Scope:=match s with
 |.FunctionDef _ _ _ _ _ _ sc _ _ _=>sc
 |_=>{ kind:=.function,names:=[],isGenerator:=false,isCoroutine:=false }
abbrev CX0:CXT:=λ_ _ _ _ _ _=>False
abbrev E0:XK:=λ_ _ _=>False
theorem Vs{X:Cx}:F0 CX0 X E0:=λ_ _ _ _ _ _ _ h=>h.elim
structure Fun(K:ah)(x qual:Str)(st:Stmt)(f:Addr)(fd:c5):Prop where
 ex:∃(oc:Value)(od:Option Addr)(kV doc pm:Value)(an:Option Addr)(cdv ct:Value)(osl:Array (Option Value)),
  fd=b9 x qual (aR st) (aP st) (aE st) .none kV doc pm an cdv ct/\K.lookup f=some ⟨oc,od,.func fd,osl⟩/\b8 K cdv qual=true
 kp:bp K (.ref f)=true
section
variable{P:Program}{w:World}{K:ah}{mg:Str->Option Value}{base:Heap}
theorem Fun.ok{x qual:Str}{st:Stmt}{f:Addr}{fd:c5}{N ps:List Str}{k:Nat}{sp:Sp}(F:Fun K x qual st f fd)(S:aX N ps (aE st))(len:∀vs H Q E,sp vs H Q E->vs.length=ps.length)
  (hbody:∀(cdv:Value)(A:Around)(outer:List Env)(s:Shared)(H:Hp)(vs:List V)(Q:VK)(E:XK),fW k (A.deeper (envOfC qual (aE st) s.heap.objs.size f cdv))->sp vs H Q E->
   ∃t,PSs (F1 CX0 P w K mg base N qual (aE st) f cdv A outer s H E).nox (aP st) t/\t { nx:=λ_ H'=>Q .non H',rt:=Q } (start N vs) H):aV P w K mg base CX0 (k+1) f fd ps sp:=by
 obtain⟨oc,od,kV,doc,pm,an,cdv,ct,osl,rfl,lk,hcd⟩:=F.ex;refine Vl lk hcd S len λA outer s H vs Q E hr hsp=>?_;obtain⟨t,h,q⟩:=hbody cdv A outer s H vs Q E hr hsp;exact⟨t,h.nox,q⟩
theorem Fun.binds{x qual:Str}{st:Stmt}{f:Addr}{fd:c5}{ps:List Str}(F:Fun K x qual st f fd)
  (h:∀(kV doc pm:Value)(an:Option Addr)(cdv ct:Value)(us:List Value),us.length=ps.length->bindArgs (b9 x qual (aR st) (aP st) (aE st) .none kV doc pm an cdv ct) ⟨us,[]⟩=pure (ps.zip us)):Binds K fd ps []:=by
 obtain⟨oc,od,kV,doc,pm,an,cdv,ct,osl,rfl,lk,hcd⟩:=F.ex;exact .all (h kV doc pm an cdv ct)
theorem F5{x qual:Str}{st:Stmt}{f:Addr}{oc:Value}{od an:Option Addr}{osl:Array (Option Value)}{kV doc pm cdv ct:Value}(l:K.lookup f=some ⟨oc,od,.func (b9 x qual (aR st) (aP st) (aE st) .none kV doc pm an cdv ct),osl⟩)
  (c:b8 K cdv qual=true) (k:bp K (.ref f)=true):Fun K x qual st f (b9 x qual (aR st) (aP st) (aE st) .none kV doc pm an cdv ct):=⟨⟨oc,od,kV,doc,pm,an,cdv,ct,osl,rfl,l,c⟩,k⟩
end
theorem Vt{A:Around}{k:Nat}(hr:fW k A):A.units+1<cLine:=Nat.lt_of_le_of_lt (Nat.add_le_add_left (by decide:1<=64) _) hr.units
theorem CN{A B:Prop}(h:B):if false=true then A else B:=by
 rw[if_neg cb];exact h
theorem CO{A B:Prop}(h:A):if true=true then A else B:=by
 rw[if_pos rfl];exact h
def Ba(H H':Hp):Prop:=∀b o,H b=some o->H' b=some o
section
variable{κ:Type}[DecidableEq κ]
def iD(kvs:List (κ×V))(k:κ):Option V:=(kvs.find? λkv=>decide (kv.1=k)).map (·.2)
def putK(kvs:List (κ×V))(k:κ)(v:V):List (κ×V):=
 if(kvs.any λkv=>decide (kv.1=k))=true then kvs.map (λkv=>if kv.1=k then(kv.1,v) else kv) else kvs++[(k,v)]
theorem oY{p:κ×V}{r:List (κ×V)}{k:κ}(e:p.1=k):iD (p::r) k=some p.2:=by simp[iD,jl,e]
theorem oZ{p:κ×V}{r:List (κ×V)}{k:κ}(e:¬ p.1=k):iD (p::r) k=iD r k:=by simp[iD,jl,e]
theorem vI(k:κ):∀kvs:List (κ×V),(kvs.any λkv=>decide (kv.1=k))=(iD kvs k).isSome
 |[]=>rfl
 |p::r=>by
  rw[k6]
  by_cases e:p.1=k
  ·simp only[oY e,decide_eq_true e,Bool.true_or,jx]
  ·rw[oZ e,decide_eq_false e,Bool.false_or];exact vI k r
theorem gQ(kvs:List (κ×V))(k:κ)(v:V):(putK kvs k v).length<=kvs.length+1:=by
 unfold putK;split
 ·rw[af];omega
 ·rw[fg,dg,List.length_nil];omega
theorem uK.isSome_eq{o:Option V}{u:Option Value}(r:uK o u):o.isSome=u.isSome:=by
 cases o with
 |none=>cases u with
  |none=>rfl
  |some _=>exact(show False from r).elim
 |some _=>cases u with
  |none=>exact(show False from r).elim
  |some _=>rfl
theorem uK.getD{o:Option V}{u:Option Value}{d:V}{d':Value}(r:uK o u)(rd:RelV d d'):RelV (o.getD d) (u.getD d'):=by
 cases o with
 |none=>cases u with
  |none=>exact rd
  |some _=>exact(show False from r).elim
 |some _=>cases u with
  |none=>exact(show False from r).elim
  |some _=>exact r
theorem KV.val{kvs:List (κ×V)}{vs:List (κ×Value)}(r:KV kvs vs)(k:κ):uK (iD kvs k) (valueAt vs k):=by
 unfold KV at r
 induction r with
 |nil=>exact lp
 | @cons p q ps qs h t ih=>
  obtain⟨h1,h2⟩:=h
  by_cases e:p.1=k
  ·have e':q.1=k:=h1.symm.trans e;have b:valueAt (q::qs) k=some q.2:=by simp[valueAt,jl,e']
   rw[oY e,b];exact h2
  ·have e':¬ q.1=k:=λz=>e (h1.trans z);have b:valueAt (q::qs) k=valueAt qs k:=by simp[valueAt,jl,e']
   rw[oZ e,b];exact ih
theorem KV.any{kvs:List (κ×V)}{vs:List (κ×Value)}(r:KV kvs vs)(k:κ):(kvs.any λkv=>decide (kv.1=k))=vs.any λkv=>decide (kv.1=k):=by
 unfold KV at r
 induction r with
 |nil=>rfl
 |cons h t ih=>rw[k6,k6,ih,h.1]
theorem KV.repl{kvs:List (κ×V)}{vs:List (κ×Value)}(r:KV kvs vs)(k:κ){y:V}{u:Value}(ry:RelV y u):
  KV (kvs.map λkv=>if kv.1=k then(kv.1,y) else kv) (vs.map λkv=>if kv.1=k then(kv.1,u) else kv):=by
 unfold KV at r⊢
 induction r with
 |nil=>exact .nil
 | @cons p q ps qs h t ih=>
  rw[a8,a8];refine .cons ?_ ih;obtain⟨h1,h2⟩:=h
  by_cases e:p.1=k
  ·rw[if_pos e,if_pos (h1.symm.trans e)];exact⟨h1,ry⟩
  ·rw[if_neg e,if_neg (λz=>e (h1.trans z))];exact⟨h1,h2⟩
theorem KV.put{kvs:List (κ×V)}{vs:List (κ×Value)}(r:KV kvs vs)(k:κ){y:V}{u:Value}(ry:RelV y u):KV (putK kvs k y) (stored vs k u):=by
 unfold putK stored;rw[r.any k]
 by_cases e:(vs.any λkv=>decide (kv.1=k))=true
 ·rw[if_pos e,if_pos e];exact r.repl k ry
 ·rw[if_neg e,if_neg e];exact Paired.snoc r ⟨rfl,ry⟩
theorem KV.length{kvs:List (κ×V)}{vs:List (κ×Value)}(r:KV kvs vs):kvs.length=vs.length:=fj r
end
theorem tO{P:Program}{w:World}{k:Key}{u:Value}(r:RelV (kV k) u):(bL P w).is k u=true:=by
 cases k with
 |inl i=>obtain⟨t,e⟩:=(show ∃t,u=Value.int i t from r);subst e;exact CC P w i t
 |inr x=>obtain⟨t,e⟩:=(show ∃t,u=Value.str x t from r);subst e;exact CD P w x t
theorem zW{P:Program}{w:World}:∀{ks:List Key}{us:List Value},aO (ks.map kV) us->ItemsAre (bL P w) ks us
 |[],_,r=>by rw[List.map_nil]at r;cases r;exact .nil
 |k::ks,_,r=>by
  rw[a8]at r;cases r with
  |cons h t=>exact .cons (tO h) (zW t)
abbrev KT(H:Hp):List (List Key×V)->List (List Key×Addr×Value)->Prop:=Paired λp q=>p.1=q.1/\H q.2.1=some (.tup (p.1.map kV))/\RelV p.2 q.2.2
theorem KT.val{H:Hp}{kvs:List (List Key×V)}{xs:List (List Key×Addr×Value)}(r:KT H kvs xs)(k:List Key):uK (iD kvs k) ((atKey xs k).map (·.2)):=by
 induction r with
 |nil=>exact lp
 | @cons p q ps qs h t ih=>
  obtain⟨h1,_,h2⟩:=h
  by_cases e:p.1=k
  ·have e':q.1=k:=h1.symm.trans e;have b:atKey (q::qs) k=some q.2:=by simp[atKey,jl,e']
   rw[oY e,b];exact h2
  ·have e':¬ q.1=k:=λz=>e (h1.trans z);have b:atKey (q::qs) k=atKey qs k:=by simp[atKey,jl,e']
   rw[oZ e,b];exact ih
theorem KT.repl{H:Hp}{kvs:List (List Key×V)}{xs:List (List Key×Addr×Value)}(r:KT H kvs xs)(k:List Key){y:V}{u:Value}(ry:RelV y u):
  KT H (kvs.map λkv=>if kv.1=k then(kv.1,y) else kv) (xs.map (putAt k u)):=by
 induction r with
 |nil=>exact .nil
 | @cons p q ps qs h t ih=>
  rw[a8,a8];refine .cons ?_ ih;obtain⟨h1,h2,h3⟩:=h;unfold putAt
  by_cases e:p.1=k
  ·rw[if_pos e,if_pos (h1.symm.trans e)];exact⟨h1,h2,ry⟩
  ·rw[if_neg e,if_neg (λz=>e (h1.trans z))];exact⟨h1,h2,h3⟩
theorem KT.put{H:Hp}{kvs:List (List Key×V)}{xs:List (List Key×Addr×Value)}(r:KT H kvs xs)(k:List Key){b:Addr}{y:V}{u:Value}(hb:H b=some (.tup (k.map kV)))(ry:RelV y u):
  KT H (putK kvs k y) (storedH xs k b u):=by
 have e:(kvs.any λkv=>decide (kv.1=k))=(atKey xs k).isSome:=by
  rw[vI,(r.val k).isSome_eq,Option.isSome_map]
 unfold putK storedH;rw[e]
 by_cases q:(atKey xs k).isSome=true
 ·rw[if_pos q,if_pos q];exact r.repl k ry
 ·rw[if_neg q,if_neg q];exact Paired.snoc r ⟨rfl,hb,ry⟩
theorem KT.keeps{H H':Hp}{kvs:List (List Key×V)}{xs:List (List Key×Addr×Value)}(r:KT H kvs xs)(ht:∀b ys,H b=some (.tup ys)->H' b=some (.tup ys)):KT H' kvs xs:=
 Paired.mapP r λ_ _ z=>⟨z.1,ht _ _ z.2.1,z.2.2⟩
section
variable{P:Program}{w:World}{H:Hp}{h:Heap}{a:Addr}
theorem S1{u:HO}(ok:HOk P w H h)(e:Rd H a u):cK P w H h a u:=e.ok ok
theorem tQ{kvs:List (Key×V)}(ok:HOk P w H h)(e:Rd H a (.dK kvs)):kvs.length<=aw/\(a == f6)=false/\∃vs,KV kvs vs/\h.DictOf (bL P w) a vs:=
 show cK P w H h a (.dK kvs) from S1 ok e
theorem CP{kvs:List (Key×V)}(ok:HOk P w H h)(e:H a=some (.dK kvs)):kvs.length<=aw/\(a == f6)=false/\∃vs,KV kvs vs/\h.DictOf (bL P w) a vs:=tQ ok (.inl e)
theorem rF{ks:List Key}(ok:HOk P w H h)(e:H a=some (.tup (ks.map kV))):(tupleKind (bL P w)).is h ks a:=by
 obtain⟨_,its,r,o,h1,h2,⟨n,h3⟩,_⟩:=(show cK P w H h a (.tup (ks.map kV)) from ok a _ e)
 exact⟨o,its.toArray,n,h1,h2,h3,by simpa using zW r⟩
theorem zX{kvs:List (List Key×V)}(ok:HOk P w H h)(e:Rd H a (.dT kvs)):kvs.length<=aw/\(a == f6)=false/\
  ∃xs,KT H kvs xs/\h.DictOfH (tupleKind (bL P w)) a xs:=by
 obtain⟨z,y,xs,r,o,es,ep,h1,h2,h3,h4,h5⟩:=(show cK P w H h a (.dT kvs) from S1 ok e)
 refine⟨z,y,xs,r,o,es,ep,h1,h2,h3,h4,λx hx=>?_,h5⟩;have all:∀{l:List (List Key×V)}{m:List (List Key×Addr×Value)},KT H l m->∀x∈m,(tupleKind (bL P w)).is h x.1 x.2.1:=by
  intro l m q
  induction q with
  |nil=>intro x hx;exact nomatch hx
  | @cons p q ps qs hq t ih=>
   intro x hx;rcases ba.mp hx with e|hx
   ·subst e;exact rF ok (by rw[<-hq.1];exact hq.2.1)
   ·exact ih x hx
 exact all r x hx
theorem Vu{kvs:List (List Key×V)}(ok:HOk P w H h)(e:H a=some (.dT kvs)):kvs.length<=aw/\(a == f6)=false/\
  ∃xs,KT H kvs xs/\h.DictOfH (tupleKind (bL P w)) a xs:=zX ok (.inl e)
end
def rG(H:Hp)(a:Addr)(y:V)(r:Option V):Prop:=
 (∃kvs k,Rd H a (.dK kvs)/\y=kV k/\r=iD kvs k)\/∃kvs k b,Rd H a (.dT kvs)/\y=.ref b/\H b=some (.tup (k.map kV))/\r=iD kvs k
def T8(H:Hp)(a:Addr)(y v:V)(H':Hp):Prop:=
 (∃kvs k,H a=some (.dK kvs)/\y=kV k/\kvs.length<aw/\H'=upd H a (.dK (putK kvs k v)))\/
 ∃kvs k b,H a=some (.dT kvs)/\y=.ref b/\H b=some (.tup (k.map kV))/\kvs.length<aw/\H'=upd H a (.dT (putK kvs k v))
theorem rG.k{H:Hp}{a:Addr}{kvs:List (Key×V)}{k:Key}(e:H a=some (.dK kvs)):rG H a (kV k) (iD kvs k):=.inl ⟨kvs,k,.inl e,rfl,rfl⟩
theorem T8.k{H:Hp}{a:Addr}{kvs:List (Key×V)}{k:Key}{v:V}(e:H a=some (.dK kvs))(hl:kvs.length<aw):T8 H a (kV k) v (upd H a (.dK (putK kvs k v))):=.inl ⟨kvs,k,e,rfl,hl,rfl⟩
section
variable{X:Cx}{pins:List (Addr×Obj)}{σ:St}{H:Hp}{s:Shared}{a:Addr}{y v:V}{u r:Value}{o:Option V}{A:Around}{E:Value->Shared->Prop}
theorem Inv.big(I:Inv X pins σ H s):f6<s.heap.objs.size:=by
 have h:cg<s.heap.objs.size:=(I.mod.glob.keeps I.bk).lt;exact kr (by decide) h
theorem IX{Q:Value->Shared->Prop}(hu:A.units+1<cLine)(I:Inv X pins σ H s)(g:rG H a y (some v))(ry:RelV y u)(h:∀w' s',Inv X pins σ H s'->RelV v w'->Q w' s'):
  wpAny (model X.prog X.w) A (getItem (.ref a) u) Q E s:=by
 rcases g with⟨kvs,k,e,ey,l⟩|⟨kvs,k,b,e,ey,eb,l⟩
 ·subst ey;obtain⟨z,hd,vs,rel,dd⟩:=tQ I.hok e;obtain⟨w',hw,rw'⟩:=uK.some_of (v:=v) (o:=valueAt vs k) (by rw[l];exact rel.val k);exact wpAny_getItem_of (tO ry) dd.mapOf hw (h w' _ (I.tok _) rw')
 ·subst ey;cases(show u=c3 b from ry)
  obtain⟨z,hd,xs,rel,dd⟩:=zX I.hok e;obtain⟨w',hw,rw'⟩:=uK.some_of (v:=v) (o:=(atKey xs k).map (·.2)) (by rw[l];exact rel.val k);obtain⟨p,hp,hp2⟩:=bc.mp hw;refine wpAny_getItem_heap (l9 hu) (rF I.hok eb) dd hp ?_;rw[hp2];exact h w' _ (I.tok _) rw'
theorem Pb{Q:Value->Shared->Prop}(hu:A.units+1<cLine)(I:Inv X pins σ H s)(g:rG H a y o)(ry:RelV y u)(h:∀s',Inv X pins σ H s'->Q (.bool (!o.isSome)) s'):
  wpAny (model X.prog X.w) A (c9 .NotIn u (.ref a)) Q E s:=by
 rcases g with⟨kvs,k,e,ey,l⟩|⟨kvs,k,b,e,ey,eb,l⟩
 ·subst ey;obtain⟨z,hd,vs,rel,dd⟩:=tQ I.hok e;refine wpAny_notIn_of (tO ry) hd dd.mapOf ?_;rw[<-(rel.val k).isSome_eq,<-l];exact h _ (I.tok _)
 ·subst ey;cases(show u=c3 b from ry)
  obtain⟨z,hd,xs,rel,dd⟩:=zX I.hok e;refine wpAny_notIn_heap (l9 hu) (rF I.hok eb) hd dd ?_;have q:=(rel.val k).isSome_eq;rw[Option.isSome_map]at q;rw[<-q,<-l];exact h _ (I.tok _)
theorem pA{h':Heap}{t':Nat}{ob:HO}(I:Inv X pins σ H s)(mu:Mut (H a))(hs:gq a s.heap h')(he:∃q,h'.get? a=some q)(new:cK X.prog X.w (upd H a ob) h' a ob):
  Inv X pins σ (upd H a ob) { s with heap:=h',toks:=t' }:=
 I.write (x:=a) (e:=a) mu (.inl rfl) (λb q hb z=>(hs.2 b hb).trans z) he new
theorem Bb{P:Program}{w:World}{H':Hp}{h':Heap}{kvs:List (Key×V)}{vs:List (Key×Value)}(z:kvs.length<=aw)(hd:(a == f6)=false)(rel:KV kvs vs)(dd:h'.DictOf (bL P w) a vs):
  cK P w H' h' a (.dK kvs):=⟨z,hd,vs,rel,dd⟩
theorem IY{H':Hp}{Q:Unit->Shared->Prop}(hu:A.units+1<cLine)(I:Inv X pins σ H s)(g:T8 H a y v H')(ry:RelV y u)(rv:RelV v r)(h:∀s',Inv X pins σ H' s'->Q () s'):
  wpAny (model X.prog X.w) A (setItem (.ref a) u r) Q E s:=by
 rcases g with⟨kvs,k,e,ey,l,eH⟩|⟨kvs,k,b,e,ey,eb,l,eH⟩
 ·subst ey eH;obtain⟨z,hd,vs,rel,dd⟩:=CP I.hok e;have hz:vs.length<=aw:=by rw[<-rel.length];exact z
  have hl:(putK kvs k v).length<=aw:=by have:=gQ kvs k v;omega
  refine wpAny_setItem_pairs (hsz:=hz) (tO ry) dd λh' dd' hs=>h _ ?_;have he:∃q,h'.get? a=some q:=let ⟨q,_,_,hq,_⟩:=dd';⟨q,hq⟩;exact pA I (by rw[e];exact lp) hs he (Bb hl hd (rel.put k rv) dd')
 ·subst ey eH;cases(show u=c3 b from ry)
  obtain⟨z,hd,xs,rel,dd⟩:=Vu I.hok e;have hz:xs.length<=aw:=by rw[<-fj rel];exact z
  have hl:(putK kvs k v).length<=aw:=by have:=gQ kvs k v;omega
  refine wpAny_setItem_heap (hsz:=hz) (l9 hu) (rF I.hok eb) dd λh' dd' hs=>h _ ?_;obtain⟨q,es,ep,hq,h2,h3,h4,_,h5⟩:=dd';refine pA I (by rw[e];exact lp) hs ⟨q,hq⟩ ⟨hl,hd,_,(rel.put k eb rv).keeps λc ys ec=>?_,q,es,ep,hq,h2,h3,h4,h5⟩;rw[bG (V6 ec e (λz=>nomatch z))];exact ec
end
section
variable{X:Cx}{pins:List (Addr×Obj)}{σ:St}{H:Hp}{s:Shared}{a:Addr}{kvs:List (Key×V)}{k:Key}{u:Value}{A:Around}{E:Value->Shared->Prop}
theorem Vv{Q:Value->Shared->Prop}(I:Inv X pins σ H s)(e:Rd H a (.dK kvs))(h:∀t s',Inv X pins σ H s'->Q (.int kvs.length t) s'):wpAny (model X.prog X.w) A (call (.builtin "len") [.ref a]) Q E s:=by
 obtain⟨z,hd,vs,rel,dd⟩:=tQ I.hok e;refine call_len_dict hd dd (by rw[<-rel.length];rw[cx]at z;omega) ?_;rw[<-rel.length];exact h _ _ (I.tok _)
end
theorem CQ{X:Cx}{pins:List (Addr×Obj)}{σ:St}{H:Hp}{s:Shared}{a:Addr}{y:V}{o:Option V}(I:Inv X pins σ H s)(g:rG H a y o):s.TypeIs (.ref a) "dict" := by
 rcases g with⟨kvs,k,e,_,_⟩|⟨kvs,k,b,e,_,_,_⟩
 ·obtain⟨_,_,vs,_,dd⟩:=tQ I.hok e;exact dd.typeIs
 ·obtain⟨_,_,xs,_,dd⟩:=zX I.hok e;exact dd.typeIs
theorem Li{P:Program}{w:World}{H:Hp}(h:Heap)(hb:f6<h.objs.size):cK P w H (h.push { cls:=.type "dict",data:=.dict #[] }) h.objs.size (.dK []):=
 ⟨bw _,beq_eq_false_iff_ne.mpr (k0 (a9 hb)),[],.nil,Heap.DictOf.new h⟩
def T9:TE:=λ_ H Q=>∀p,H p=none->Q (.ref p) (upd H p (.dK []))
section
variable{X:Cx}{pos:Pos}
theorem Lj:PE X (.Dict [] [] pos) T9:=λpins s σ H Q I h=>
 wpAny_Dict_empty ⟨.ref s.heap.objs.size,_,I.laid (a:=s.heap.objs.size) (o:=.dK []) (t':=s.toks) (λ_ _ q=>ag _ q) (ak _) (Li s.heap I.big),rfl,h _ (I.hok.fresh (ak _))⟩
end
def rH(kvs more:List (Key×V)):List (Key×V):=more.foldl (λacc kv=>putK acc kv.1 kv.2) kvs
theorem KV.merge:∀{more:List (Key×V)}{rs:List (Key×Value)}{kvs:List (Key×V)}{vs:List (Key×Value)},KV more rs->KV kvs vs->KV (rH kvs more) (merged vs rs):=by
 intro more rs kvs vs r;unfold KV at r
 induction r generalizing kvs vs with
 |nil=>intro q;exact q
 | @cons p q ps qs h t ih=>
  intro r0;have e:KV (putK kvs p.1 p.2) (stored vs q.1 q.2):=by
   have:=r0.put p.1 h.2;rw[<-h.1];exact this
  exact ih e
theorem nJ:∀(more kvs:List (Key×V)),(rH kvs more).length<=kvs.length+more.length
 |[],kvs=>by show kvs.length<=kvs.length+0;omega
 |p::r,kvs=>by
  have h1:=nJ r (putK kvs p.1 p.2);have h2:=gQ kvs p.1 p.2
  show(rH (putK kvs p.1 p.2) r).length<=_
  rw[dg];omega
structure M1(X:Cx)(o:Expr)(m:Str)(apos:Pos)(e:Expr)(cpos:Pos):Prop where
 base:attributeBase o m X.env (eval o X.env)=eval o X.env
 few:((backTo cpos (bu [e] X.env)).all (λx=>!x.1)&&(backToKw cpos (keywordEach [] X.env)).all (λx=>x.1.isSome)
  && decide (([e]:List Expr).length+([]:List Keyword).length+(if([]:List Keyword).isEmpty then 0 else 1)<30))=true
 line:(apos.endLine == cpos.line)=true
 trees:backTo cpos (bu [e] X.env)=[(false,eval e X.env)]
structure M2(X:Cx)(o:Expr)(m:Str)(apos:Pos)(e f:Expr)(cpos:Pos):Prop where
 base:attributeBase o m X.env (eval o X.env)=eval o X.env
 few:((backTo cpos (bu [e,f] X.env)).all (λx=>!x.1)&&(backToKw cpos (keywordEach [] X.env)).all (λx=>x.1.isSome)
  && decide (([e,f]:List Expr).length+([]:List Keyword).length+(if([]:List Keyword).isEmpty then 0 else 1)<30))=true
 line:(apos.endLine == cpos.line)=true
 trees:backTo cpos (bu [e,f] X.env)=[(false,eval e X.env),(false,eval f X.env)]
section
variable{X:Cx}{pins:List (Addr×Obj)}{σ:St}{H:Hp}{s:Shared}{a:Addr}{y d:V}{u r:Value}{o:Option V}{A:Around}{E:Value->Shared->Prop}
theorem Ta{Q:Value->Shared->Prop}(hu:A.units+1<cLine)(I:Inv X pins σ H s)(g:rG H a y o)(ry:RelV y u)(h:∀w' s',Inv X pins σ H s'->RelV (o.getD .non) w'->Q w' s'):
  wpAny (model X.prog X.w) A (call (.builtin "dict.get") [.ref a,u]) Q E s:=by
 rcases g with⟨kvs,k,e,ey,l⟩|⟨kvs,k,b,e,ey,eb,l⟩
 ·subst ey;obtain⟨z,hd,vs,rel,dd⟩:=tQ I.hok e;refine jy d6 dd.typeIs iu (PySem.F.args_dict_get_2 _ _) (meets_dict_get (bL X.prog X.w) a (tO ry) hd) ⟨_,dd.mapOf,h _ _ (I.tok _) ?_⟩;rw[l];exact(rel.val k).getD rfl
 ·subst ey;cases(show u=c3 b from ry)
  obtain⟨z,hd,xs,rel,dd⟩:=zX I.hok e;refine jy d6 dd.typeIs iu (PySem.F.args_dict_get_2 _ _) (meetsH_dict_get (tupleKind (bL X.prog X.w)) a b hd) ⟨l9 hu,k,xs,rF I.hok eb,dd,h _ _ (I.tok _) ?_⟩;rw[l];exact(rel.val k).getD rfl
theorem Tb{Q:Value->Shared->Prop}(hu:A.units+1<cLine)(I:Inv X pins σ H s)(g:rG H a y o)(ry:RelV y u)(rd:RelV d r)(h:∀w' s',Inv X pins σ H s'->RelV (o.getD d) w'->Q w' s'):
  wpAny (model X.prog X.w) A (call (.builtin "dict.get") [.ref a,u,r]) Q E s:=by
 rcases g with⟨kvs,k,e,ey,l⟩|⟨kvs,k,b,e,ey,eb,l⟩
 ·subst ey;obtain⟨z,hd,vs,rel,dd⟩:=tQ I.hok e;refine jy d6 dd.typeIs iu (PySem.F.args_dict_get_3 _ _ _) (meets_dict_get_default (bL X.prog X.w) a (tO ry) hd r) ⟨_,dd.mapOf,h _ _ (I.tok _) ?_⟩;rw[l];exact(rel.val k).getD rd
 ·subst ey;cases(show u=c3 b from ry)
  obtain⟨z,hd,xs,rel,dd⟩:=zX I.hok e;refine jy d6 dd.typeIs iu (PySem.F.args_dict_get_3 _ _ _) (meetsH_dict_get_default (tupleKind (bL X.prog X.w)) a b hd r) ⟨l9 hu,k,xs,rF I.hok eb,dd,h _ _ (I.tok _) ?_⟩;rw[l];exact(rel.val k).getD rd
end
section
variable{X:Cx}{pins:List (Addr×Obj)}{σ:St}{H:Hp}{s:Shared}{a:Addr}{kvs:List (Key×V)}{A:Around}{E:Value->Shared->Prop}
theorem Lk{Q:Value->Shared->Prop}(I:Inv X pins σ H s)(e:Rd H a (.dK kvs))(h:∀p s',H p=none->Inv X pins σ (upd H p (.dK kvs)) s'->Q (.ref p) s'):wpAny (model X.prog X.w) A (call (.type "dict") [.ref a]) Q E s:=by
 obtain⟨z,hd,vs,rel,dd⟩:=tQ I.hok e;refine kt_call_dict hd dd (by rw[<-rel.length];exact z) λh' dd' hs=>?_;refine h _ _ (I.hok.fresh (ak _)) (I.laid (a:=s.heap.objs.size) (o:=.dK kvs) (t':=s.toks) (λb q hq=>?_) (ak _) (Bb z (beq_eq_false_iff_ne.mpr (k0 (a9 I.big))) rel dd'));exact(hs.2 b (a9 (ax hq))).trans (ag _ hq)
end
section
variable{X:Cx}
theorem IZ:bO X (.builtin "len") (λxs H Q=>∃a kvs,xs=[V.ref a]/\H a=some (.dK kvs)/\Q (.int kvs.length) H):=by
 intro pins s σ H xs us Q I r h;obtain⟨a,kvs,rfl,ha,q⟩:=h;obtain⟨u,rfl,ru⟩:=vals1 r;cases ru
 exact Vv I (.inl ha) λt s' I'=>⟨.int kvs.length,H,I',⟨t,rfl⟩,q⟩
end
section
variable{prog:Program}{w:World}{A:Around}{R:Result->Shared->Prop}{s:Shared}
def Ho(ifs:List Expr)(env:Env):Sem Bool:=forIn ifs true λc r=>if r=true then do let ok <-isTrue c env (eval c env);pure (ForInStep.yield ok) else pure (ForInStep.yield r)
theorem Bc{elt target iter:Expr}{ifs:List Expr}{scope:Scope}{pos:Pos}{it acc:Value}{env:Env}(I:Nat->Shared->Prop)
  (turn:∀n s,I n s->wpAny (model prog w) A (pyNext it) (λr s₁=>match r with
   |none=>R (.ok .next) s₁
   | some v=>wpAny (model prog w) A (letOwnedTupleGo target it v) (fun _ s₁'=>wpAny (model prog w) A (assign target env v) (fun _ s₂=>
     wpAny (model prog w) A (Ho ifs env) (λok s₃=>
      if ok=true then wpAny (model prog w) A (eval elt env) (λx s₄=>
       wpAny (model prog w) A (call (.builtin "list.append") [acc,x]) (λ_ s₅=>∃m,m<n/\I m s₅) (λ_ _=>False) s₄) (λ_ _=>False) s₃
      else ∃m,m<n/\I m s₃) (λ_ _=>False) s₂) (λ_ _=>False) s₁') (λ_ _=>False) s₁) (λ_ _=>False) s)
  (n:Nat) (h:I n s):
  codeAny (model prog w) A (.compLoop (.ListComp elt [⟨target,iter,ifs,0⟩] scope pos) 0 it acc env) R s:=by
 refine codeAny_loop rfl I (λn s hI=>?_) n h
 show wpAny _ A ((compTurn (.ListComp elt [⟨target,iter,ifs,0⟩] scope pos) 0 it acc env).onRaise (λx=>do noteFrame x env;theTreesLotGoes x)) _ _ s
 refine wpAny_noted ?_;rw[compTurn_list];refine aa (wpAny_standAt (aa (ix (turn n s hI) (λr s₁ h₁=>?_) λ_ _ h'=>h'.elim)));cases r with
 |none=>exact ae h₁
 |some v=>
  refine aa (ix h₁ (λ_ s₁' h₁'=>?_) λ_ _ h'=>h'.elim);refine aa (ix h₁' (λ_ s₂ h₂=>aa (ix h₂ (λok s₃ h₃=>?_) λ_ _ h'=>h'.elim)) λ_ _ h'=>h'.elim);cases ok with
  |false=>exact ae ⟨rfl,h₃⟩
  |true=>
   exact aa (aa (ix h₃ (λx s₄ h₄=>aa (ix h₄ (λ_ s₅ h₅=>ae (ae ⟨rfl,h₅⟩)) λ_ _ h'=>h'.elim)) λ_ _ h'=>h'.elim))
end
def fX(cells:List (Str×Addr)):List (Str×l8)->List (Str×Addr)->List (Str×Addr)
 |[],cs=>cs
 |(n,k)::r,cs=>fX cells r (if(k == dw)=true then(n,(cells.lookup n).getD 0)::cs else cs)
theorem yU{scope:Scope}{env:Env}(h:∀y∈scope.names,y.2=dw->∃c,env.cells.lookup y.1=some c):closureFor scope env=pure (fX env.cells scope.names []):=by
 have go:∀(names:List (Str×l8))(cs:List (Str×Addr)),(∀y∈names,y.2=dw->∃c,env.cells.lookup y.1=some c)->
   (forIn names cs λ(x:Str×l8)(r:List (Str×Addr))=>match x with
    |(name,kind)=>if(kind == dw)=true then(do let y <-cellOf env name;pure (ForInStep.yield ((name,y)::r))) else(pure (ForInStep.yield r):Sem _))=(pure (fX env.cells names cs):Sem _):=by
  intro names
  induction names with
  |nil=>intro cs _;rfl
  |cons y r ih=>
   intro cs hy
   obtain⟨n,k⟩:=y
   rw[List.forIn_cons]
   have ih':=λcs'=>ih cs' λy hm=>hy y (aj _ hm)
   by_cases hk:(k == dw)=true
   ·obtain⟨c,hc⟩:=hy (n,k) ai (by simpa using hk)
    have e1:cellOf env n=pure c:=by unfold cellOf;rw[show env.cells.lookup n=some c from hc]
    have e2:fX env.cells ((n,k)::r) cs=fX env.cells r ((n,c)::cs):=by
     show fX env.cells r (if(k == dw)=true then _ else _)=_
     rw[if_pos hk,show env.cells.lookup n=some c from hc];rfl
    rw[e2,<-ih' ((n,c)::cs)]
    simp only[hk,if_true,e1,pure_bind]
   ·have e2:fX env.cells ((n,k)::r) cs=fX env.cells r cs:=by
     show fX env.cells r (if(k == dw)=true then _ else _)=_
     rw[if_neg hk]
    rw[e2,<-ih' cs]
    simp only[hk,if_false,pure_bind]
    try rfl
 have:=go scope.names [] h
 unfold closureFor
 simpa using this
theorem tR{cells:List (Str×Addr)}{x:Str}{c:Addr}:∀(names:List (Str×l8))(cs:List (Str×Addr)),(fX cells names cs).lookup x=some c->cs.lookup x=some c\/(∃y∈names,y.1=x/\y.2=dw/\c=(cells.lookup x).getD 0)
 |[],_,h=>.inl h
 |(n,k)::r,cs,h=>by
  rcases tR r _ h with h1|⟨y,hy,e⟩
  ·by_cases hk:(k == dw)=true
   ·rw[if_pos hk]at h1
    by_cases hx:x=n
    ·subst hx;simp only[cf,beq_self_eq_true]at h1;exact .inr ⟨(x,k),ai,rfl,by simpa using hk,(bq h1).symm⟩
    ·have:(x == n)=false:=by simpa using hx
     simp only[cf,this]at h1;exact .inl h1
   ·rw[if_neg hk]at h1;exact .inl h1
  ·exact .inr ⟨y,aj _ hy,e⟩
theorem vJ{cells:List (Str×Addr)}{x:Str}:∀(names:List (Str×l8))(cs:List (Str×Addr)),((∃c,cs.lookup x=some c)\/∃y∈names,y.1=x/\y.2=dw)->∃c,(fX cells names cs).lookup x=some c
 |[],_,h=>by
  rcases h with h|⟨y,hy,_⟩
  ·exact h
  ·cases hy
 |(n,k)::r,cs,h=>by
  refine vJ r _ ?_;rcases h with⟨c,h⟩|⟨y,hy,e1,e2⟩
  ·left
   by_cases hk:(k == dw)=true
   ·rw[if_pos hk]
    by_cases hx:x=n
    ·subst hx;simp[cf]
    ·have:(x == n)=false:=by simpa using hx
     exact⟨c,by simp only[cf,this];exact h⟩
   ·rw[if_neg hk];exact⟨c,h⟩
  ·rcases ba.mp hy with rfl|hy
   ·left;have hk:(k == dw)=true:=by simpa using e2
    rw[if_pos hk];have hx:n=x:=e1;subst hx;simp[cf]
   ·exact .inr ⟨y,hy,e1,e2⟩
def nW(os:Scope)(oN:List Str)(sc:Scope)(N:List Str)(js:List (Option Nat)):Bool:=
 (match sc.kind with|.function=>true|_=>false)&&sc.names.all (λy=>match y.2 with
  |.cell=>(match sc.names.lookup y.1 with|some .cell=>true|_=>false)
  |_=>true) &&
 sc.names.all (λy=>match y.2 with
  |.local=>(match sc.names.lookup y.1 with|some .local=>true|_=>false)
  |.free=>(match sc.names.lookup y.1,os.names.lookup y.1 with|some .free,some .cell=>true|some .free,some .free=>true|_,_=>false)
  |_=>true) &&
 js.length == N.length&&(js.zip N).all (λp=>match p.1 with
  |none=>true
  |some j=>(match oN[j]? with|some x=>decide (x=p.2)|none=>false)&&(match sc.names.lookup p.2 with|some .free=>true|_=>false))
structure Tc(os:Scope)(oN:List Str)(sc:Scope)(N:List Str)(js:List (Option Nat)):Prop where
 kind:sc.kind=.function
 own:∀y∈sc.names,y.2=.cell->sc.names.lookup y.1=some .cell
 nm:∀y∈sc.names,y.2=.local->sc.names.lookup y.1=some .local
 fr:∀y∈sc.names,y.2=.free->os.names.lookup y.1=some .cell\/os.names.lookup y.1=some .free
 len:js.length=N.length
 cap:∀(i j:Nat),js[i]?=some (some j)->∃x,N[i]?=some x/\oN[j]?=some x/\sc.names.lookup x=some .free
theorem J1{os:Scope}{oN:List Str}{sc:Scope}{N:List Str}{js:List (Option Nat)}(h:nW os oN sc N js=true):Tc os oN sc N js:=by
 unfold nW at h;simp only[cw]at h;obtain⟨⟨⟨⟨h1,h2⟩,h3⟩,h4⟩,h5⟩:=h;refine⟨?_,λy hy e=>?_,λy hy e=>?_,λy hy e=>?_,by simpa using h4,λi j e=>?_⟩
 ·cases hk:sc.kind <;> rw[hk]at h1 <;> first|rfl|exact absurd h1 cb
 ·have:=bz.mp h2 y hy;rw[e]at this;dsimp only at this;cases hl:sc.names.lookup y.1 with
  |none=>rw[hl]at this;exact absurd this cb
  |some k=>cases k <;> rw[hl]at this <;> first|rfl|exact absurd this cb
 ·have:=bz.mp h3 y hy;rw[e]at this;dsimp only at this;cases hl:sc.names.lookup y.1 with
  |none=>rw[hl]at this;exact absurd this cb
  |some k=>cases k <;> rw[hl]at this <;> first|rfl|exact absurd this cb
 ·have:=bz.mp h3 y hy;rw[e]at this;dsimp only at this;cases hl:sc.names.lookup y.1 with
  |none=>rw[hl]at this;exact absurd this cb
  |some k=>
   rw[hl]at this;cases ho:os.names.lookup y.1 with
   |none=>rw[ho]at this;cases k <;> exact absurd this cb
   |some k'=>rw[ho]at this;cases k <;> cases k' <;> first|exact .inl rfl|exact .inr rfl|exact absurd this cb
 ·have hlen:js.length=N.length:=by simpa using h4
  obtain⟨hi,ej⟩:=ab.mp e;have hN:i<N.length:=by omega
  have hz:(js.zip N)[i]?=some (some j,N[i]):=by
   rw[List.getElem?_zip_eq_some];exact⟨e,by simp[hN]⟩
  have:=bz.mp h5 _ (cq hz);simp only[cw]at this;obtain⟨t1,t2⟩:=this;refine⟨N[i],by simp[hN],?_,?_⟩
  ·cases ho:oN[j]? with
   |none=>rw[ho]at t1;exact absurd t1 cb
   |some x=>rw[ho]at t1;rw[of_decide_eq_true t1]
  ·cases hl:sc.names.lookup N[i] with
   |none=>rw[hl]at t2;exact absurd t2 cb
   |some k=>rw[hl]at t2;cases k <;> first|rfl|exact absurd t2 cb
theorem cN{κ:Type}{x:Str}{k:κ}:∀{l:List (Str×κ)},l.lookup x=some k->(x,k)∈l
 |[],h=>by simp at h
 |(n,v)::r,h=>by
  by_cases hx:x=n
  ·subst hx;simp only[cf,beq_self_eq_true]at h;cases h
   exact ai
  ·have:(x == n)=false:=by simpa using hx
   simp only[cf,this]at h;exact aj _ (cN h)
theorem jX{sc:Scope}{env:Env}:∀{names:List (Str×l8)}{x:Str}{k:l8},(names.map λ(n,k)=>if(k == dw&&env.scope.kind == .function&&env.kindOf n == some .cell) then(n,om) else(n,k)).lookup x=some k->
  names.lookup x=some k\/(k=.cell/\names.lookup x=some .free)
 |[],_,_,h=>by simp at h
 |(n,q)::r,x,k,h=>by
  have ih:=@jX sc env r x k
  by_cases hc:(q == dw&&env.scope.kind == .function&&env.kindOf n == some .cell)=true
  ·simp only[a8]at h;rw[if_pos hc]at h;have hq:q=.free:=by
    simp only[cw]at hc;simpa using hc.1.1
   by_cases hx:x=n
   ·subst hx;simp only[cf,beq_self_eq_true]at h⊢;exact .inr ⟨(bq h).symm,by rw[hq]⟩
   ·have e:(x == n)=false:=by simpa using hx
    simp only[cf,e]at h⊢;exact ih h
  ·simp only[a8]at h;rw[if_neg hc]at h
   by_cases hx:x=n
   ·subst hx;simp only[cf,beq_self_eq_true]at h⊢;exact .inl h
   ·have e:(x == n)=false:=by simpa using hx
    simp only[cf,e]at h⊢;exact ih h
theorem pB{env:Env}:∀{names:List (Str×l8)}{x:Str},names.lookup x=some .free->
  (names.map λ(n,k)=>if(k == dw&&env.scope.kind == .function&&env.kindOf n == some .cell) then(n,om) else(n,k)).lookup x=some .free\/
  (names.map λ(n,k)=>if(k == dw&&env.scope.kind == .function&&env.kindOf n == some .cell) then(n,om) else(n,k)).lookup x=some .cell
 |[],_,h=>by simp at h
 |(n,q)::r,x,h=>by
  have ih:=@pB env r x
  by_cases hc:(q == dw&&env.scope.kind == .function&&env.kindOf n == some .cell)=true
  ·simp only[a8];rw[if_pos hc]
   by_cases hx:x=n
   ·subst hx;simp only[cf,beq_self_eq_true]
    first|exact .inr rfl|exact .inr trivial
   ·have e:(x == n)=false:=by simpa using hx
    simp only[cf,e]at h⊢;exact ih h
  ·simp only[a8];rw[if_neg hc]
   by_cases hx:x=n
   ·subst hx;simp only[cf,beq_self_eq_true]at h⊢;exact .inl h
   ·have e:(x == n)=false:=by simpa using hx
    simp only[cf,e]at h⊢;exact ih h
theorem bI:∀(names:List (Str×l8))(n:Nat)(acc:List (Str×Addr)),ee n names acc=ee n names []++acc
 |[],_,_=>rfl
 |(x,k)::r,n,acc=>by
  unfold ee;split
  ·rw[bI r _ ((x,n)::acc),bI r _ [(x,n)],List.append_assoc];rfl
  ·exact bI r n acc
theorem iW{x:Str}{c:Addr}:∀{names:List (Str×l8)}{n:Nat},(x,c)∈ee n names []->(x,om)∈names
 |[],_,h=>by cases h
 |(y,k)::r,n,h=>by
  unfold ee at h;split at h
  ·rename_i hk;rw[bI,bh]at h;rcases h with h|h
   ·exact aj _ (iW h)
   ·have e:=bf.mp h;have ex:x=y:=congrArg Prod.fst e;have ek:k=.cell:=by simpa using hk
    rw[ex,ek];exact ai
  ·exact aj _ (iW h)
theorem tS{α:Type}{x:Str}{c:α}:∀{l:List (Str×α)},(x,c)∈l->∃d,l.lookup x=some d
 |(y,d)::r,h=>by
  by_cases e:x=y
  ·subst e;exact⟨d,by simp[cf]⟩
  ·have z:(x == y)=false:=by simpa using e
   rcases ba.mp h with q|q
   ·exact absurd (congrArg Prod.fst q) e
   ·obtain⟨d',hd⟩:=tS q;exact⟨d',by simp only[cf,z];exact hd⟩
theorem eQ{x:Str}:∀{names:List (Str×l8)}{n:Nat},(x,om)∈names->∃c,(ee n names []).lookup x=some c
 |(y,k)::r,n,h=>by
  have go:∃c,(x,c)∈ee n ((y,k)::r) []:=by
   rcases ba.mp h with q|q
   ·have ex:x=y:=congrArg Prod.fst q;have ek:k=.cell:=(congrArg Prod.snd q).symm;refine⟨n,?_⟩;unfold ee;rw[if_pos (by rw[ek];rfl),bI,ex];exact ao _ ai
   ·unfold ee;split
    ·obtain⟨c,hc⟩:=eQ (n:=n+1) q;rw[bI];exact⟨c,ij _ (mem_of_lookup hc)⟩
    ·obtain⟨c,hc⟩:=eQ (n:=n) q;exact⟨c,mem_of_lookup hc⟩
  obtain⟨c,hc⟩:=go;exact tS hc
theorem pC{α:Type}{x:Str}:∀{l r:List (Str×α)},(l++r).lookup x=(l.lookup x).or (r.lookup x)
 |[],_=>by simp
 |(y,d)::l,r=>by
  have ih:=pC (x:=x) (l:=l) (r:=r);cases e:x == y with
  |true=>simp[cf,e]
  |false=>simp only[List.cons_append,cf,e];exact ih
theorem rJ{M:Model}{A:Around}{E:Value->Shared->Prop}{s:Shared}{scope:Scope}{globals:Addr}{closure:List (Str×Addr)}{qual:Str}{func:Option Addr}{code:Value}{outer:Env}{builtins:Addr}{Q:Env->Shared->Prop}
  (hQ:Q (newEnv scope s.heap.objs.size globals (ee (s.heap.objs.size+1) scope.names closure) qual func code (some outer) builtins) { s with heap:=pushCells (s.heap.push { cls:=.type "dict",data:=.dict #[] }) scope.names }):
  wpAny M A (newFunctionEnv scope globals closure [] qual func code (some outer) builtins) Q E s:=by
 simp only[newFunctionEnv,jx,if_true];refine aa (wpAny_alloc ?_);refine aa (wpAny_layCells _ (λname kind cells=>by cases hkc:kind == om <;> simp[hkc]) _ _ _ _ ?_);rw[show({ s with heap:=s.heap.push { cls:=.type "dict",data:=.dict #[] } }:Shared).heap.objs.size=s.heap.objs.size+1 from lu ..]
 rw[List.forIn_nil];exact aa (ae (ae hQ))
def Cx.comp(X:Cx)(sc:Scope)(N:List Str)(C:Addr)(fp:List Addr)(s₀:Shared)(H₀:Hp):Cx:=
 { X with N:=N,s₀:=s₀,H₀:=H₀,env:=compEnvC sc (ee (C+1) sc.names (fX X.env.cells sc.names [])) C X.env,outer:=X.stack,ex:=fp,fn:=λx=>(match sc.names.lookup x with|some .cell=>true|_=>false),pn:=[],xe:=λ_ _=>False }
def F6:St->Nat->Option V
 |[],_=>none
 |x::_,0=>x
 |_::r,n+1=>F6 r n
theorem vK:∀{σ:St}{i:Nat}{v:V},F6 σ i=some v->σ[i]?=some (some v)
 |[],_,_,h=>by cases h
 |x::_,0,v,h=>by
  have h':x=some v:=h;simp[h']
 |_::r,n+1,v,h=>by
  rw[g7];exact vK (σ:=r) (i:=n) h
def iX(js:List (Option Nat))(σ:St):St:=js.map λo=>match o with
 |none=>none
 |some j=>F6 σ j
theorem Pc{js:List (Option Nat)}{σ:St}{i:Nat}{v:V}(h:(iX js σ)[i]?=some (some v)):∃j,js[i]?=some (some j)/\σ[j]?=some (some v):=by
 unfold iX at h;rw[au]at h;cases e:js[i]? with
 |none=>rw[e]at h;cases h
 |some o=>
  rw[e]at h;cases o with
  |none=>cases h
  |some j=>exact⟨j,rfl,vK (bq h)⟩
def PTs(X:Cx)(ifs:List Expr)(t:TT):Prop:=
 ∀(pins:List (Addr×Obj))(s:Shared)(σ:St)(H:Hp)(Q:Bool->Hp->Prop),Inv X pins σ H s->t σ H Q->wpAny (model X.prog X.w) X.A (Ho ifs X.env) (TP X pins σ Q) X.xe s
def Vw:TT:=λ_ H Q=>Q true H
theorem Pd{X:Cx}:PTs X [] Vw:=λ_ _ _ H _ I h=>wpAny_tests_nil ⟨H,I,h⟩
theorem Pe{X:Cx}{c:Expr}{t:TT}(h:PT X c t):PTs X [c] t:=λpins s σ H Q I q=>wpAny_tests_one (h pins s σ H Q I q)
def S2(js:List (Option Nat))(g:TG)(tt:TT)(te:TE)(σ:St)(acc:Addr)(x:V)(H:Hp)(N:Hp->Prop):Prop:=g x (iX js σ) H λσ2 H4=>tt σ2 H4 λb H5=>
   if b=true then te σ2 H5 λv H6=>∃ys,H6 acc=some (.lst ys)/\ys.length<aw/\N (upd H6 acc (.lst (ys++[v]))) else N H5
def Hq(js:List (Option Nat))(wi:TI)(g:TG)(tt:TT)(te:TE):TE:=λσ H Q=>wi σ H λJ H1=>∀acc,H1 acc=none->
 ∃W:Nat->Nat->Hp->Prop,(∃m,W 0 m (upd H1 acc (.lst [])))/\∀i m H2,W i m H2->
  (J.stop i H2/\Q (.ref acc) H2)\/(J.go i H2/\∃N:Hp->Prop,(∀H',N H'->∃m',m'<m/\W (i+1) m' H')/\∀x H3,J.yld i H2 x H3->S2 js g tt te σ acc x H3 N)
section
variable{X:Cx}{elt iter tg:Expr}{ifs:List Expr}{sc:Scope}{pos:Pos}{os:Scope}{oN N:List Str}{js:List (Option Nat)}{wi:TI}{g:TG}{tt:TT}{te:TE}
structure Off(X:Cx)(pins:List (Addr×Obj))(H:Hp)(C:Addr)(s:Shared):Prop where
 ns:∃m,s.heap.Ns C m
 none:H C=none
 loc:C≠X.env.locals
 new:X.s₀.heap.objs.size<=C
 cells:∀x c,X.env.cells.lookup x=some c->c≠C
 pins:∀p∈X.pn++pins,p.1≠C
theorem Off.go{pins:List (Addr×Obj)}{σ:St}{H:Hp}{C:Addr}{s:Shared}{h':Heap}(o:Off X pins H C s)(I:Inv X pins σ H s)(hs:gq C s.heap h'):Inv X pins σ H { s with heap:=h' }:=
 I.turned (t':=s.toks) (λb ob hb e=>(hs.2 b hb).trans e) o.none o.loc (.inr o.new) o.cells o.pins
theorem zY{use:Option (Value->Sem Unit)}{Q0:Value->Shared->Prop}(hc:X.calm=true)(hes:X.env.scope=os)(heN:X.N=oN)(ok:nW os oN sc N js=true)(hi:PI X tg iter wi)
  (hg:∀C fp s₀ H₀,PG (X.comp sc N C fp s₀ H₀) tg g) (ht:∀C fp s₀ H₀,PTs (X.comp sc N C fp s₀ H₀) ifs tt) (he:∀C fp s₀ H₀,PE (X.comp sc N C fp s₀ H₀) elt te)
  {pins:List (Addr×Obj)} {s:Shared} {σ:St} {H:Hp} {Q:VK} (I:Inv X pins σ H s) (h:Hq js wi g tt te σ H Q)
  (hfin:∀acc C s6 H6,Inv X pins σ H6 s6->Off X pins H6 C s6->Q (.ref acc) H6->compPost (model X.prog X.w) X.A X.xe use Q0 (.ref acc) C (.ok .next) s6)
  (hs:∀x,ji iter X.env x=pure x:=by intro _;rfl):
  wpAny (model X.prog X.w) X.A (comprehension (.ListComp elt [⟨tg,iter,ifs,0⟩] sc pos) sc X.env (firstIterPos [⟨tg,iter,ifs,0⟩] pos) (newList []) false (eval iter X.env) use) Q0 X.xe s:=by
 have S:=J1 ok;subst hes heN;have hcl:∀y∈sc.names,y.2=dw->∃c,X.env.cells.lookup y.1=some c:=λy hy e=>I.ok.has y.1 (S.fr y hy e);have clsub:∀x c,(fX X.env.cells sc.names []).lookup x=some c->X.env.cells.lookup x=some c:=λx c e=>by
  rcases tR _ _ e with z|⟨y,hy,e1,e2,e3⟩
  ·cases z
  ·obtain⟨d,hd⟩:=hcl y hy e2;rw[e1]at hd;rw[hd]at e3;rw[hd,e3];rfl
 refine wpAny_comprehension_free (use:=use) rfl hs (yU hcl) S.kind S.nm (thn (hi pins s σ H _ I h) λv s1 h1=>thn h1 λitv s2 h2=>?_);obtain⟨it,fp,tn,J,H2,e,I2,T,st2,f2,q⟩:=h2;subst e;obtain⟨W,⟨m0,w0⟩,turn⟩:=q s2.heap.objs.size I2.fresh;refine fm (rJ ?_);have I3:Inv X pins σ (upd H2 s2.heap.objs.size (.lst [])) { s2 with heap:=s2.heap.push { cls:=.type "list",data:=.seq ([]:List Value).toArray },toks:=s2.toks }:=I2.lnew (its:=[]) (ys:=[]) .nil (bw _);generalize hH3:upd H2 s2.heap.objs.size (HO.lst [])=H3 at w0 I3;generalize hs3:({ s2 with heap:=s2.heap.push { cls:=.type "list",data:=.seq ([]:List Value).toArray },toks:=s2.toks }:Shared)=s3 at I3;have es3:({ s2 with heap:=s2.heap.push { cls:=.type "list",dict:=none,data:=.seq ([]:List Value).toArray } }:Shared)=s3:=hs3;have eh3:s2.heap.push { cls:=.type "list",dict:=none,data:=.seq ([]:List Value).toArray }=s3.heap:=by rw[<-es3]
 (try rw[eh3])
 have hC:∀b o,s3.heap.get? b=some o->b≠s3.heap.objs.size:=λb o e=>a9 (ax e);have old:∀b o,s3.heap.get? b=some o->(pushCells (s3.heap.push { cls:=.type "dict",data:=.dict #[] }) sc.names).get? b=some o:=λb o e=>pushCells_keeps _ _ b o (ag _ e);have hns₁:(pushCells (s3.heap.push { cls:=.type "dict",data:=.dict #[] }) sc.names).Ns s3.heap.objs.size (λ_=>none):=(Heap.Ns.new s3.heap (.type "dict")).keeps (pushCells_keeps _ _);have cok:=cellsFrom_ok sc.names (s3.heap.push { cls:=.type "dict",data:=.dict #[] }) (s3.heap.objs.size+1) [] ⟨λ_ _ hm=>(nomatch hm),o6⟩ (by rw[lu];exact ak _);rw[lu]at cok;generalize pushCells (s3.heap.push { cls:=.type "dict",data:=.dict #[] }) sc.names=h₁ at old hns₁ cok⊢;have cl1:∀{x c},(ee (s3.heap.objs.size+1) sc.names (fX X.env.cells sc.names [])).lookup x=some c->((x,c)∈ee (s3.heap.objs.size+1) sc.names []/\h₁.IsCell c none/\s3.heap.objs.size+1<=c)\/(X.env.cells.lookup x=some c/\c<s3.heap.objs.size):=λ{x c} e=>by
  rw[bI,pC]at e;cases eo:(ee (s3.heap.objs.size+1) sc.names []).lookup x with
  |some d=>
   rw[eo]at e;cases e
   have:=mem_of_lookup eo;exact .inl ⟨this,cok.empty x c this⟩
  |none=>
   rw[eo]at e;have e:=clsub x c e;obtain⟨v,z⟩:=I3.cell x c e;exact .inr ⟨e,z.lt⟩
 have cl2:∀{x c},sc.names.lookup x=some .free->(fX X.env.cells sc.names []).lookup x=some c->(ee (s3.heap.objs.size+1) sc.names (fX X.env.cells sc.names [])).lookup x=some c:=λ{x c} hf e=>by
  rw[bI,pC];cases eo:(ee (s3.heap.objs.size+1) sc.names []).lookup x with
  |some d=>
   have:=S.own _ (iW (mem_of_lookup eo)) rfl;rw[hf]at this;cases this
  |none=>exact e
 have st3:tn 0 s3.heap:=T.keep 0 _ _ st2 λb hb o e=>by
  rw[<-eh3];exact ag _ e
 have fobj:∀b∈fp,∃o,s3.heap.get? b=some o/\∀v,o.data≠.cell v:=T.obj 0 _ st3;have f3:∀b∈fp,CI X pins H3 b:=λb hb=>by
  obtain⟨o,ho,_⟩:=T.obj 0 _ st2 b hb;refine⟨?_,(f2 b hb).2⟩;rw[<-hH3,bG (a9 (ax ho))];exact(f2 b hb).1
 -- the block's context
 have Xok:(X.comp sc N s3.heap.objs.size fp s3 H3).Ok:=by
  refine⟨I.ok.mod,S.kind,I.ok.glob,I.ok.blt,ak _,λx y c e1 e2=>?_,λx hx=>?_,λx c z e=>?_,I.ok.hd,I.ok.frames,.inl rfl,λb hb=>?_,I3.bs,
   df I.ok.bsz I3.sz,λb o e hb=>?_,λb hb hf=>?_,I3.stack,I3.stkFree⟩
  ·rcases cl1 e1 with⟨m1,_,g1⟩|⟨z1,g1⟩ <;> rcases cl1 e2 with⟨m2,_,g2⟩|⟨z2,g2⟩
   ·exact name_of_addr cok.apart m1 m2
   ·exact absurd (bj g2 (Nat.le_of_succ_le g1)) (gj _)
   ·exact absurd (bj g1 (Nat.le_of_succ_le g2)) (gj _)
   ·exact I.ok.inj x y c z1 z2
  ·have fr:sc.names.lookup x=some .free->∃c,(ee (s3.heap.objs.size+1) sc.names (fX X.env.cells sc.names [])).lookup x=some c:=λhf=>
    let ⟨c,hc⟩:=vJ (cells:=X.env.cells) (x:=x) sc.names [] (.inr ⟨_,cN hf,rfl,rfl⟩)
    ⟨c,cl2 hf hc⟩
   have fin:∀{k},(relabel sc X.env).names.lookup x=some k->(k=.cell\/k=.free)->∃c,(ee (s3.heap.objs.size+1) sc.names (fX X.env.cells sc.names [])).lookup x=some c:=λ{k} e hk=>by
    rcases jX (sc:=sc) e with z|⟨_,z⟩
    ·rcases hk with rfl|rfl
     ·obtain⟨c,hc⟩:=eQ (n:=s3.heap.objs.size+1) (cN z);exact⟨c,by rw[bI,pC,hc];rfl⟩
     ·exact fr z
    ·exact fr z
   rcases hx with hx|hx
   ·exact fin hx (.inl rfl)
   ·exact fin hx (.inr rfl)
  ·have z:sc.names.lookup x=some .cell:=by
    have z:(match sc.names.lookup x with|some .cell=>true|_=>false)=true:=z
    split at z
    ·assumption
    ·cases z
   have e:(ee (s3.heap.objs.size+1) sc.names (fX X.env.cells sc.names [])).lookup x=some c:=e;obtain⟨d,hd⟩:=eQ (n:=s3.heap.objs.size+1) (cN z);rw[bI,pC,hd]at e;cases e
   exact Nat.le_of_succ_le (cok.empty x c (mem_of_lookup hd)).2
  ·obtain⟨o,ho,_⟩:=fobj b hb;refine⟨hC b o ho,λx c e=>?_⟩;rcases cl1 e with⟨_,_,g1⟩|⟨z1,_⟩
   ·exact Nat.ne_of_gt (bj (ax ho) (Nat.le_of_succ_le g1))
   ·exact(f3 b hb).2.2.2.2.1 x c z1
  ·rcases(f3 b hb).2.2.2.1 with z|z
   ·exact I.ok.noex b o e z
   ·exact absurd (bj (ax e) (df I.ok.bsz z)) (gj _)
  ·rcases ba.mp (I3.stkSub b hf) with z|z
   ·exact(f3 b hb).2.1 z
   ·exact(f3 b hb).2.2.1 z
 -- what the block takes from around it
 have capt:∀(i:Nat)(x:Str)(v:V),N[i]?=some x->(iX js σ)[i]?=some (some v)->∃u c o,RelV v u/\((compEnvC sc (ee (s3.heap.objs.size+1) sc.names (fX X.env.cells sc.names [])) s3.heap.objs.size X.env).kindOf x=some .cell\/(compEnvC sc (ee (s3.heap.objs.size+1) sc.names (fX X.env.cells sc.names [])) s3.heap.objs.size X.env).kindOf x=some .free)/\
   (ee (s3.heap.objs.size+1) sc.names (fX X.env.cells sc.names [])).lookup x=some c/\s3.heap.get? c=some o/\o.data=.cell (some u)/\H3 c=none/\c∉fp:=by
  intro i x v hN hv;obtain⟨j,hj,hσ⟩:=Pc hv;obtain⟨x',hx',ho,hf⟩:=S.cap i j hj;rw[hN]at hx';cases hx';obtain⟨m,hn,hl⟩:=I3.loc;have hvis:Vis X.env.scope x:=by
   rcases S.fr _ (cN hf) rfl with z|z
   ·exact .inr (.inl z)
   ·exact .inr (.inr z)
  obtain⟨u,r,l⟩:=hl j x v ho hσ hvis;obtain⟨c,hcl'⟩:=vJ (cells:=X.env.cells) (x:=x) sc.names [] (.inr ⟨_,cN hf,rfl,rfl⟩);have hcx:=clsub x c hcl';have hcell:s3.heap.IsCell c (some u):=by
   rcases l with⟨k,_⟩|⟨_,c',e,z⟩
   ·exfalso;rcases S.fr _ (cN hf) rfl with z|z
    ·have k':X.env.scope.names.lookup x=some .local:=k;rw[z]at k';cases k'
    ·have k':X.env.scope.names.lookup x=some .local:=k;rw[z]at k';cases k'
   ·rw[hcx]at e;cases e;exact z
  obtain⟨o,ho',hd⟩:=hcell;refine⟨u,c,o,r,?_,cl2 hf hcl',ho',hd,I3.freeC x c hcx,λhb=>(f3 c hb).2.2.2.2.1 x c hcx rfl⟩;exact(pB (env:=X.env) hf).symm
 -- at any state of the block,its names as at its start
 have recap:∀{pins':List (Addr×Obj)}{σ8:St}{H8:Hp}{s8:Shared},Inv (X.comp sc N s3.heap.objs.size fp s3 H3) pins' σ8 H8 s8->Inv (X.comp sc N s3.heap.objs.size fp s3 H3) [] (iX js σ) H8 s8:=λ{pins' σ8 H8 s8} I8=>by
  refine⟨I8.ok,I8.os,I8.bare,I8.base,?_,I8.cell,I8.free,I8.freeC,λp hp=>by simp[Cx.comp]at hp,I8.hok,?_⟩
  ·obtain⟨m,hn,_⟩:=I8.loc;refine⟨m,hn,λi x v hN hv _=>?_⟩;obtain⟨u,c,o,r,k,hl,ho,hd,hn3,hnf⟩:=capt i x v hN hv;refine⟨u,r,.inr ⟨k,c,hl,?_⟩⟩;obtain⟨sl,e⟩:=I8.base.any ho hn3 hnf;exact⟨_,e,hd⟩
  ·show(iX js σ).length=N.length
   unfold iX;rw[af,S.len]
 have I4:Inv (X.comp sc N s3.heap.objs.size fp s3 H3) [] (iX js σ) H3 { s3 with heap:=h₁ }:=by
  refine⟨Xok,rfl,I3.bare,Un.kept old,⟨_,hns₁,λi x v hN hv _=>?_⟩,λx c e=>?_,I3.fresh,λx c e=>?_,λp hp=>by simp[Cx.comp]at hp,I3.hok.kept old,?_⟩
  ·obtain⟨u,c,o,r,k,hl,ho,hd,_,_⟩:=capt i x v hN hv;exact⟨u,r,.inr ⟨k,c,hl,o,old c o ho,hd⟩⟩
  ·rcases cl1 e with⟨_,g1,_⟩|⟨z1,_⟩
   ·exact⟨_,g1⟩
   ·obtain⟨v,o,ho,hd⟩:=I3.cell x c z1;exact⟨v,o,old c o ho,hd⟩
  ·rcases cl1 e with⟨_,_,g1⟩|⟨z1,_⟩
   ·exact I3.hok.fresh (by omega)
   ·exact I3.freeC x c z1
  ·show(iX js σ).length=N.length
   unfold iX;rw[af,S.len]
 have st4:tn 0 h₁:=T.keep 0 _ _ st3 λb hb o e=>old b o e;have fpok:∀{H':Hp},(∀b∈fp,H' b=none)->∀b∈fp,CI (X.comp sc N s3.heap.objs.size fp s3 H3) [] H' b:=λ{H'} hn b hb=>
  ⟨hn b hb,(Xok.exf b hb).1,Xok.exfs b hb,.inl hb,(Xok.exf b hb).2,λp hp=>by simp[Cx.comp]at hp⟩
 have fin:∀(s6:Shared)(H6:Hp),Inv (X.comp sc N s3.heap.objs.size fp s3 H3) [] (iX js σ) H6 s6->Q (.ref s2.heap.objs.size) H6->compPost (model X.prog X.w) X.A X.xe use Q0 (.ref s2.heap.objs.size) s3.heap.objs.size (.ok .next) s6:=λs6 H6 I6 q6=>by
  have I7:Inv X pins σ H6 s6:=I3.call' (ch:=fp) I6.os I6.base I6.hok I6.bare λb hb=>⟨(f3 b hb).2.2.2.1,(f3 b hb).2.1,(f3 b hb).2.2.2.2.1,(f3 b hb).2.2.2.2.2⟩;refine hfin _ _ _ _ I7 ⟨let ⟨m,hn,_⟩:=I6.loc;⟨m,hn⟩,I6.free,Nat.ne_of_gt I3.lt,I3.sz,λx c e=>?_,λp hp=>?_⟩ q6
  ·obtain⟨v,z⟩:=I3.cell x c e;exact a9 z.lt
  ·exact a9 (ax (I3.pin p hp).1)
 have loop:codeAny (model X.prog X.w) X.A (.compLoop (.ListComp elt [⟨tg,iter,ifs,0⟩] sc pos) 0 (.ref it) (.ref s2.heap.objs.size) (compEnvC sc (ee (s3.heap.objs.size+1) sc.names (fX X.env.cells sc.names [])) s3.heap.objs.size X.env))
   (compPost (model X.prog X.w) X.A X.xe use Q0 (.ref s2.heap.objs.size) s3.heap.objs.size) { s3 with heap:=h₁ }:=by
  refine Bc (λn s'=>∃i H',Inv (X.comp sc N s3.heap.objs.size fp s3 H3) [] (iX js σ) H' s'/\tn i s'.heap/\(∀b∈fp,H' b=none)/\W i n H') ?_ m0 ⟨0,H3,I4,st4,λb hb=>(f3 b hb).1,w0⟩;rintro n s5 ⟨i,H5,I5,st5,fr5,w5⟩;rcases turn i n H5 w5 with⟨stop,qn⟩|⟨go,Nn,hN,step⟩
  ·refine thn (T.done (X.comp sc N s3.heap.objs.size fp s3 H3) rfl rfl rfl hc i [] s5 (iX js σ) H5 (λ_ _=>False) I5 (fpok fr5) st5 stop) λr s6 ⟨hr,I6⟩=>?_;subst hr;exact fin s6 H5 I6 qn
  ·refine thn (T.item (X.comp sc N s3.heap.objs.size fp s3 H3) rfl rfl rfl hc i [] s5 (iX js σ) H5 (λ_ _=>False) I5 (fpok fr5) st5 go) λr s6 ⟨u,hr,h6⟩=>?_;subst hr;refine thn h6 λ_ s7 hz=>?_;obtain⟨x,H7,I7,r7,y7,st7,fr7⟩:=hz;have I7':=I7.pinned (fpok fr7) (T.obj _ _ st7);refine thn (hg _ _ _ _ _ s7 _ H7 x u _ I7' r7 (step x H7 y7)) λ_ s8 ⟨σ8,H8,I8,q8⟩=>?_;refine thn (ht _ _ _ _ _ s8 σ8 H8 _ I8 q8) λb s9 ⟨H9,I9,q9⟩=>?_;have again:∀{σ':St}{H':Hp}{s':Shared},Inv (X.comp sc N s3.heap.objs.size fp s3 H3) ([]++vC fp s7.heap) σ' H' s'->Nn H'->∃m,m<n/\∃i H',Inv (X.comp sc N s3.heap.objs.size fp s3 H3) [] (iX js σ) H' s'/\tn i s'.heap/\(∀b∈fp,H' b=none)/\W i m H':=λ{σ' H' s'} I' n'=>by
    obtain⟨m',hm,w'⟩:=hN H' n';refine⟨m',hm,i+1,H',recap I',T.keep _ _ _ st7 λb hb o e=>(I'.pin (b,o) (ao _ (ao _ (iV hb e)))).1,λb hb=>?_,w'⟩;obtain⟨o,e,d⟩:=T.obj _ _ st7 b hb;exact(I'.pin (b,o) (ao _ (ao _ (iV hb e)))).2.1
   cases b with
   |false=>exact again I9 q9
   |true=>
    refine thn (he _ _ _ _ _ s9 σ8 H9 _ I9 q9) λu' s10 ⟨v,H10,I10,rv,ys,hacc,hz,n10⟩=>?_;refine thn (zU (X:=X.comp sc N s3.heap.objs.size fp s3 H3) _ s10 σ8 H10 (.ref s2.heap.objs.size) [v] (.ref s2.heap.objs.size) [u'] (λ_ H'=>Nn H') I10 rfl (.cons rv .nil) ⟨_,ys,v,rfl,rfl,hacc,hz,n10⟩) λ_ s11 ⟨_,H11,I11,_,n11⟩=>?_;exact again I11 n11
 exact codeAny_compStart_list loop (T.self X.A 0 _ _ _ st4 loop)
theorem Pf(hc:X.calm=true)(hes:X.env.scope=os)(heN:X.N=oN)(ok:nW os oN sc N js=true)(hi:PI X tg iter wi)
  (hg:∀C fp s₀ H₀,PG (X.comp sc N C fp s₀ H₀) tg g) (ht:∀C fp s₀ H₀,PTs (X.comp sc N C fp s₀ H₀) ifs tt) (he:∀C fp s₀ H₀,PE (X.comp sc N C fp s₀ H₀) elt te)
  (hs:∀x,ji iter X.env x=pure x:=by intro _;rfl):PE X (.ListComp elt [⟨tg,iter,ifs,0⟩] sc pos) (Hq js wi g tt te):=by
 intro pins s σ H Q I h;rw[eval_ListComp];refine zY (use:=none) hc hes heN ok hi hg ht he I h (λacc C s6 H6 I6 o q=>?_) hs;exact⟨o.ns.choose,o.ns.choose_spec,λh' hs'=>⟨.ref acc,H6,o.go I6 hs',rfl,q⟩⟩
theorem F7{i:Nat}{x:Str}{pos' spos:Pos}(hN:X.N.Nodup)(hx':X.N[i]?=some x)(hloc:X.env.scope.names.lookup x=some .local)(hc:X.calm=true)(hes:X.env.scope=os)(heN:X.N=oN)(ok:nW os oN sc N js=true)(hi:PI X tg iter wi)
  (hg:∀C fp s₀ H₀,PG (X.comp sc N C fp s₀ H₀) tg g) (ht:∀C fp s₀ H₀,PTs (X.comp sc N C fp s₀ H₀) ifs tt) (he:∀C fp s₀ H₀,PE (X.comp sc N C fp s₀ H₀) elt te)
  (hsw:swapsWith (.ListComp elt [⟨tg,iter,ifs,0⟩] sc pos) (some (.Name x pos')) spos.line X.env=pure true:=by rfl)
  (hs:∀x,ji iter X.env x=pure x:=by intro _;rfl):PS X (.Assign [.Name x pos'] (.ListComp elt [⟨tg,iter,ifs,0⟩] sc pos) spos) (SC (Hq js wi g tt te) (L0 i)):=by
 intro pins s σ H D I h
 rw[exec_Assign_Name_used _ _ _ _ hsw]
 refine aa (wpAny_standAt (aa ?_))
 show wpAny _ X.A (do let _ <-comprehension (.ListComp elt [⟨tg,iter,ifs,0⟩] sc pos) sc X.env _ (newList []) false (eval iter X.env) (some (assign (.Name x pos') X.env))) _ _ s
 refine aa (thn (zY (use:=some (assign (.Name x pos') X.env)) (Q0:=λ_ s'=>SP X pins D .next s') hc hes heN ok hi hg ht he I h (λacc C s6 H6 I6 o q=>?_) hs) λ_ s' hq=>ae (ae hq))
 show wpAny _ X.A (assign (.Name x pos') X.env (.ref acc)) _ _ _
 refine wpAny_assign_Name (zN I6 hN hx' (.inl hloc) (v:=.ref acc) rfl (λs7 I7 ⟨a,hs7,ha⟩=>?_) (.inr hloc))
 have hCa:C≠a:=by
  rcases ha with rfl|ha
  ·exact o.loc
  ·exact λe=>o.cells x a ha e.symm
 obtain⟨m,hn⟩:=o.ns
 have o7:Off X pins H6 C s7:=⟨⟨m,hn.sameBut hs7 hCa⟩,o.none,o.loc,o.new,o.cells,o.pins⟩
 exact⟨m,hn.sameBut hs7 hCa,λh' hs'=>⟨_,H6,o7.go I7 hs',q⟩⟩
end
section
variable{X:Cx}
def Vx:V->Option Int->Option Int->Hp->VK->Prop:=λx lo hi H Q=>∃z,x=.str z/\z.length<=aw/\Q (.str (Txt.slice z lo hi)) H
theorem part_of{v:Value}{o:Option Int}(h:IsPart v o):∃p:Option (Int×Tok),v=partValue p/\p.map (·.1)=o:=by
 cases h with
 |none=>exact⟨none,rfl,rfl⟩
 |int i t=>exact⟨some (i,t),rfl,rfl⟩
theorem Td:SlR X Vx:=by
 intro pins s σ H x v vl vu lo hi sl Q I rx hs pl pu h;obtain⟨z,rfl,hz,q⟩:=h;obtain⟨t,rfl⟩:=rx;obtain⟨l,rfl,rfl⟩:=part_of pl;obtain⟨u,rfl,rfl⟩:=part_of pu;obtain⟨o,ho,hc,hd⟩:=hs;refine⟨"str",_,PySem.F.slot_str_getitem.lookup,typeIs_str s z t,?_⟩;refine wpAny_getItem_str_slice (l:=l) (u:=u) (st:=none) ⟨o,ho,hc,hd⟩ rfl ?_;have e:sliceMade z t l u none=if((1:Int) == 1&&(m4 (l.map (·.1)) (u.map (·.1)) 1 z.length).length == z.length)=true then Made.val (.str z t) else Made.str ⟨((m4 (l.map (·.1)) (u.map (·.1)) 1 z.length).filterMap (z.cps[·]?)).toArray⟩:=rfl;have hle:=Txt.slice_le z (l.map (·.1)) (u.map (·.1));unfold Txt.slice at q hle;rw[e]
 by_cases hc':((1:Int) == 1&&(m4 (l.map (·.1)) (u.map (·.1)) 1 z.length).length == z.length)=true
 ·rw[if_pos hc']at q⊢;exact⟨.str z,H,I,⟨t,rfl⟩,q⟩
 ·rw[if_neg hc']at q hle⊢;exact⟨df hle hz,.str _,H,I.tok _,⟨_,rfl⟩,q⟩
theorem vL:∀{ss:List Str}{us:List Value},aO (ss.map V.str) us->StrsAre us ss
 |[],_,r=>by cases r;exact .nil
 |x::ss,_,r=>by
  cases r with
  |cons h t=>
   obtain⟨tk,rfl⟩:=h;exact .cons x tk (vL t)
theorem zZ:∀{us:List Value}{ss:List Str},StrsAre us ss->aO (ss.map V.str) us
 |_,_,.nil=>.nil
 |_,_,.cons x t h=>.cons ⟨t,rfl⟩ (zZ h)
theorem rK:bO X (.builtin "sorted") (λxs H Q=>∃p ss,xs=[.ref p]/\SqL X.K H p (ss.map V.str)/\ss.length<64/\
  ∀l ss',H l=none->ss'.Perm ss->sortedS ss'=true->Q (.ref l) (upd H l (.lst (ss'.map V.str)))):=by
 intro pins s σ H xs us Q I r h;obtain⟨p,ss,rfl,hq,h64,q⟩:=h;obtain⟨u,rfl,ru⟩:=vals1 r;cases ru
 obtain⟨its,rv,pl,hz⟩:=I.list hq;have hlen:=rv.length;rw[af]at hlen;refine sorted_strs pl.isList (vL rv) (by omega) λout ss' a1 a2 a3=>?_;obtain⟨e,he⟩:=sortedAll_at s.heap its out;refine⟨.ref (s.heap.objs.size+1),_,I.laid (t':=s.toks) (o:=.lst (ss'.map V.str)) (λb ob h=>sortedAll_old h) (Nat.le_succ _) ?_,rfl,q _ ss' (I.hok.fresh (Nat.le_succ _)) a2 a3⟩;refine⟨?_,out.toList,e,zZ a1,by rw[he]⟩;rw[af,a2.length_eq];exact i4 (kr h64 (by decide))
theorem gT{es:List Expr}{k:Nat}{t:TGs}{n:Nat}{pos:Pos}(K:ah)(hK:X.K=K)(hc:X.calm=true)(h:PGs X es t)
  (hn:(jo es X.env).length=n:=by rfl) (hst:(jo es X.env).findIdx? (·.1)=none:=by rfl):PG X (.Tuple es k pos) (Vd K n t):=by subst hK;exact SB hc h hn hst
end
section
variable{X:Cx}{e a b:Expr}{t t' ta tb:TE}{pos:Pos}
theorem PE.imp(h:PE X e t)(i:∀σ H Q,t' σ H Q->t σ H Q):PE X e t':=λpins s σ H Q I q=>h pins s σ H Q I (i σ H Q q)
theorem PT.imp{t t':TT}(h:PT X e t)(i:∀σ H Q,t' σ H Q->t σ H Q):PT X e t':=λpins s σ H Q I q=>h pins s σ H Q I (i σ H Q q)
theorem OpR.imp{f:Value->Value->Sem Value}{r r':R2}(h:OpR X f r)(i:∀x y H Q,r' x y H Q->r x y H Q):OpR X f r':=λpins s σ H x y v u Q I rx ry q=>h pins s σ H x y v u Q I rx ry (i x y H Q q)
theorem bO.imp{f:Value}{r r':List V->Hp->VK->Prop}(h:bO X f r)(i:∀xs H Q,r' xs H Q->r xs H Q):bO X f r':=λpins s σ H xs us Q I rx q=>h pins s σ H xs us Q I rx (i xs H Q q)
def cV(i:Nat):TE:=λσ H Q=>match F6 σ i with
 |some v=>Q v H
 |none=>False
theorem cv(i:Nat){x:Str}(hN:X.N[i]?=some x:=by rfl)(hv:Vis X.env.scope x:=by first|exact Or.inl rfl|exact Or.inr (Or.inl rfl)|exact Or.inr (Or.inr rfl))(hd:(x == ("__debug__" : Str))=false:=by decide)
  (hcd:(x == ("__classdict__" : Str))=false:=by decide):PE X (.Name x pos) (cV i):=by
 refine(KW hN hv hd hcd).imp λσ H Q h=>?_;unfold cV at h;cases e:F6 σ i with
 |none=>rw[e]at h;exact h.elim
 |some v=>rw[e]at h;exact⟨v,vK e,h⟩
def Vy(K:ah):R2:=λx y H Q=>match x,y with
 |.int i,.int j=>Q (.int (i+j)) H
 |.str i,.str j=>i.length+j.length<=aw/\Q (.str (i++j)) H
 |.ref _,.ref _=>Vr x y H Q\/S0 K x y H Q
 |_,_=>False
theorem Pg(K:ah)(hK:X.K=K):OpR X (fv .Add) (Vy K):=by
 subst hK;refine(SL.or (EY.or (T7.or P8))).imp λx y H Q h=>?_;cases x <;> cases y <;> first
  |exact .inl ⟨_,_,rfl,rfl,h⟩
  |exact .inr (.inl ⟨_,_,rfl,rfl,h.1,h.2⟩)
  |exact .inr (.inr h)
  |exact h.elim
def A0(C:Int->Int->Prop)(f:Int->Int->Int):R2:=λx y H Q=>match x,y with
 |.int i,.int j=>C i j/\Q (.int (f i j)) H
 |_,_=>False
def Ll(f:Int->Int->Int):R2:=λx y H Q=>match x,y with
 |.int i,.int j=>Q (.int (f i j)) H
 |_,_=>False
theorem uT{f:Value->Value->Sem Value}{C:Int->Int->Prop}{g:Int->Int->Int}(h:OpR X f (rI C λi j=>.int (g i j))):OpR X f (A0 C g):=
 h.imp λx y H Q q=>by cases x <;> cases y <;> first|exact⟨_,_,rfl,rfl,q.1,q.2⟩|exact q.elim
theorem Lm{f:Value->Value->Sem Value}{g:Int->Int->Int}(h:OpR X f (rI0 λi j=>.int (g i j))):OpR X f (Ll g):=
 h.imp λx y H Q q=>by cases x <;> cases y <;> first|exact⟨_,_,rfl,rfl,q⟩|exact q.elim
theorem Ph:OpR X (fv .Sub) (Ll λi j=>i-j):=Lm SM
theorem Pi:OpR X (fv .Mult) (A0 CJ λi j=>i*j):=uT SN
theorem Pj:OpR X (fv .FloorDiv) (A0 L5 λi j=>i/j):=uT P2
theorem Pk:OpR X (fv .Mod) (A0 (λ_ j=>0<j) λi j=>i%j):=uT SQ
theorem Pl:OpR X (fv .Pow) (A0 IQ λi j=>i ^ j.toNat):=uT SR
def CS(f:Int->Int->Bool)(g:List Nat->List Nat->Bool):R2:=λx y H Q=>match x,y with
 |.int i,.int j=>Q (.bl (f i j)) H
 |.str i,.str j=>Q (.bl (g i.cps.toList j.cps.toList)) H
 |_,_=>False
theorem Be{f:Value->Value->Sem Value}{p:Int->Int->Bool}{g:List Nat->List Nat->Bool}(h1:OpR X f (rI0 λi j=>.bl (p i j)))
  (h2:OpR X f (λx y H Q=>∃i j,x=.str i/\y=.str j/\Q (.bl (g i.cps.toList j.cps.toList)) H)):OpR X f (CS p g):=
 (h1.or h2).imp λx y H Q q=>by cases x <;> cases y <;> first|exact .inl ⟨_,_,rfl,rfl,q⟩|exact .inr ⟨_,_,rfl,rfl,q⟩|exact q.elim
theorem Te:OpR X (c9 .Lt) (CS (λi j=>decide (i<j)) λi j=>decide (i<j)):=Be Vh IR
theorem Tf:OpR X (c9 .Gt) (CS (λi j=>decide (j<i)) λi j=>decide (j<i)):=Be Vj λpins s σ H x y v u Q I rx ry h=>by
 obtain⟨i,j,rfl,rfl,q⟩:=h;obtain⟨t,rfl⟩:=rx;obtain⟨t',rfl⟩:=ry;exact PySem.P.gt_str (vD I q rfl)
theorem Tg:OpR X (c9 .LtE) (CS (λi j=>decide (i<=j)) λi j=>!decide (j<i)):=Be Vi λpins s σ H x y v u Q I rx ry h=>by
 obtain⟨i,j,rfl,rfl,q⟩:=h;obtain⟨t,rfl⟩:=rx;obtain⟨t',rfl⟩:=ry;exact PySem.P.le_str (vD I q rfl)
end
structure Yo(t:TE):Prop where
 go:∀σ H(Q Q':VK),(∀v H1,Q v H1->Q' v H1)->t σ H Q->t σ H Q'
section
variable{X:Cx}{e a b:Expr}{t t' ta tb:TE}{pos:Pos}
theorem Vz{x:V}{Q:Bool->Prop}(h:match x with|.bl c=>Q c|_=>False):∃c,x=.bl c/\Q c:=by
 cases x <;> first|exact⟨_,rfl,h⟩|exact h.elim
def XB(ta tb:TE):TE:=λσ H Q=>ta σ H λx H1=>match x with
 |.bl c=>if c=true then tb σ H1 Q else Q (.bl false) H1
 |_=>False
theorem Pm{rest:List Expr}(ha:PE X a ta)(hb:PE X (.BoolOp .And (b::rest) pos) tb):PE X (.BoolOp .And (a::b::rest) pos) (XB ta tb):=by
 intro pins s σ H Q I h;refine BoolOp_and (thn (ha pins s σ H _ I h) λv s1 hz=>?_);obtain⟨x,H1,I1,r1,q1⟩:=hz;obtain⟨c,rfl,q1⟩:=Vz q1;cases r1
 refine iz ?_;cases c with
 |true=>exact hb pins s1 σ H1 Q I1 q1
 |false=>exact⟨.bl false,H1,I1,rfl,q1⟩
theorem Pn(hu:X.A.units+1<cLine):IxR X (λx y H Q=>∃p v,x=.ref p/\rG H p y (some v)/\Q v H):=by
 intro value slice pins s σ H x y v u Q I rx ry h hs;obtain⟨p,w,rfl,g,q⟩:=h;cases rx
 have hT:=CQ I g;unfold subscriptTail;refine aa ?_;rw[getitemInPython_of_ne hT.not_modules];refine aa (m5 hT PySem.F.slot_dict_getitem.lookup ?_);have fin:wpAny (model X.prog X.w) X.A (subscripted slice false (.ref p) u) (λr s₃=>wpAny (model X.prog X.w) X.A (letTemporaryGo value (.ref p) r >>= λ_=>pure r) (EP X pins σ Q) X.xe s₃) X.xe s:=by
  rw[hs];exact wpAny_operating (IX hu I g ry λw' s3 I3 rw'=>aa (wpAny_letTemporaryGo (ae ⟨w,H,I3,rw',q⟩)))
 first
  |exact ae (aa fin)
  |exact aa (ae (aa fin))
  |exact aa fin
def VA(K:ah):R2:=λx y H Q=>match x with
 |.str z=>(match y with
  |.int i=>z.length<=aw/\∃c,atI z.cps.toList i=some c/\Q (.str ⟨#[c]⟩) H
  |_=>False)
 |.ref p=>(∃xs i v,y=.int i/\(SqL K H p xs\/SqT K H p xs)/\atI xs i=some v/\Q v H)\/∃v,rG H p y (some v)/\Q v H
 |_=>False
theorem IxR.imp{r r':R2}(h:IxR X r)(i:∀x y H Q,r' x y H Q->r x y H Q):IxR X r':=λa b pins s σ H x y v u Q I rx ry q hs=>h a b pins s σ H x y v u Q I rx ry (i x y H Q q) hs
theorem ixC(hu:X.A.units+1<cLine)(K:ah)(hK:X.K=K):IxR X (VA K):=by
 subst hK;refine(P9.or (T3.or (T4.or (Pn hu)))).imp λx y H Q h=>?_;cases x with
 |str z=>
  cases y with
  |int i=>obtain⟨h1,c,h2,h3⟩:=h;exact .inr (.inr (.inl ⟨z,i,c,rfl,rfl,h1,h2,h3⟩))
  |_=>exact h.elim
 |ref p=>
  rcases h with⟨xs,i,v,rfl,hs|hs,ha,hq⟩|⟨v,g,hq⟩
  ·exact .inl ⟨p,xs,i,v,rfl,rfl,hs,ha,hq⟩
  ·exact .inr (.inl ⟨p,xs,i,v,rfl,rfl,hs,ha,hq⟩)
  ·exact .inr (.inr (.inr ⟨p,v,rfl,g,hq⟩))
 |_=>exact h.elim
theorem J2(hu:X.A.units+1<cLine)(K:ah)(hK:X.K=K):OpR X (c9 .NotIn) (λx y H Q=>rIn K true x y H Q\/∃a o,y=.ref a/\rG H a x o/\Q (.bl (!o.isSome)) H):=by
 subst hK;refine B7.or λpins s σ H x y v u Q I rx ry h=>?_;obtain⟨a,o,rfl,g,q⟩:=h;cases ry
 exact Pb hu I g rx λs' I'=>⟨.bl (!o.isSome),H,I',rfl,q⟩
def VB(K:ah):List V->Hp->VK->Prop:=λxs H Q=>match xs with
 |[.str y]=>y.length<=aw/\Q (.int y.length) H
 |[.ref p]=>(∃xs,(SqL K H p xs\/SqT K H p xs)/\Q (.int xs.length) H)\/∃kvs,H p=some (.dK kvs)/\Q (.int kvs.length) H
 |_=>False
theorem J3(K:ah)(hK:X.K=K):bO X (.builtin "len") (VB K):=by
 subst hK;intro pins s σ H xs us Q I r h
 match xs,h with
 |[.str y],h=>exact Lb pins s σ H _ us Q I r ⟨_,_,rfl,⟨h.1,rfl⟩,h.2⟩
 |[.ref p],h=>
  rcases h with⟨ys,hs,q⟩|⟨kvs,hs,q⟩
  ·exact B8 pins s σ H _ us Q I r ⟨p,ys,rfl,hs,q⟩
  ·exact IZ pins s σ H _ us Q I r ⟨p,kvs,rfl,hs,q⟩
def VC:List V->Hp->VK->Prop:=λxs H Q=>match xs with
 |[.int i,.int j]=>Q (.int (if j>i then j else i)) H
 |_=>False
theorem J4(hc:X.calm=true):bO X (.builtin "max") VC:=(IS hc).imp λxs H Q h=>by
 match xs,h with
 |[.int i,.int j],h=>exact⟨i,j,rfl,h⟩
theorem F8(K:ah)(hK:X.K=K):bO X (.type "list") (λxs H Q=>∃p ys,xs=[.ref p]/\(SqL K H p ys\/SqT K H p ys)/\∀l,H l=none->Q (.ref l) (upd H l (.lst ys))):=by subst hK;exact B9
theorem CT(K:ah)(hK:X.K=K):bO X (.type "tuple") (λxs H Q=>∃p ys,xs=[.ref p]/\((SqL K H p ys/\∀l,H l=none->Q (.ref l) (upd H l (.tup ys)))\/(SqT K H p ys/\Q (.ref p) H))):=by subst hK;exact yT
def VD(ta:TA):TI:=λσ H R=>ta σ H λvs H1=>match vs with
 |[.int j]=>(-(2 ^ 62)<=j/\j<2 ^ 62)/\R (Itr 0 j.toNat) H1
 |_=>False
theorem Po{vs:List V}{Q:Int->Prop}(h:match vs with|[.int i]=>Q i|_=>False):∃i,vs=[.int i]/\Q i:=by
 split at h
 · exact⟨_,rfl,h⟩
 · exact h.elim
theorem pr1{x:Expr}{ta:TA}{tg:Expr}{p pos:Pos}(hg:Gl X "range")(hm:X.mg "range" = none)(ha:PA X [x] ta)(hs:bu [x] X.env=[(false,eval x X.env)]:=by rfl):PI X tg (.Call (.Name "range" p) [x] [] pos) (VD ta):=by
 intro pins s σ H R I h;refine Call_ (rD I hg hm boot_range (PyProof.Rows.callWith_type1 (thn (ha pos pins s σ H _ I h) λus s1 hz=>?_) hs rfl));obtain⟨vs,H1,I1,r1,q1⟩:=hz;obtain⟨j,rfl,⟨h1,h2⟩,q⟩:=Po q1;obtain⟨u,rfl,t,rfl⟩:=vals1 r1;exact call_range_1 (L4 I1 (by omega) (by omega) h1 h2 (by simpa using q))
def VE(t:TE):TO:=λσ H Q=>t σ H λx H1=>match x with
 |.int i=>Q (some i) H1
 |_=>False
theorem Ln{x:Expr}{te:TE}(h:PE X x te):PO X (some x) (VE te):=by
 intro pins s σ H Q I hw;rw[evalPart_some];refine thn (h pins s σ H _ I hw) λu s1 hz=>?_;obtain⟨x,H1,I1,r1,q1⟩:=hz;cases x with
 |int i=>
  obtain⟨t,rfl⟩:=r1;exact⟨some i,H1,I1,.int i t,q1⟩
 |_=>exact q1.elim
end
structure Def(K:ah)(mg:Str->Option Value)(x:Str)(st:Stmt)(f:Addr)(fd:c5)(ps:List Str):Prop where
 fn:Fun K x x st f fd
 mg:mg x=some (.ref f)
 bd:Binds K fd ps []
section
variable{X:Cx}
theorem VF{x:Str}{st:Stmt}{f:Addr}{fd:c5}{ps:List Str}{k:Nat}{sp:Sp}{e:Expr}{es:List Expr}{t:TA}{p pos:Pos}(D:Def X.K X.mg x st f fd ps)(G:aV X.prog X.w X.K X.mg X.base CX0 k f fd ps sp)(hr:fW k X.A)(ha:PA X (e::es) t)
  (hg:Gl X x:=by rfl) (hdb:(x == ("__debug__" : Str))=false:=by decide) (he:bu (e::es) X.env=(false,eval e X.env)::bu es X.env:=by rfl) (hpl:(backTo pos (bu es X.env)).any (·.1)=false:=by rfl):
  PE X (.Call (.Name x p) (e::es) [] pos) (RZ sp [] E0 t):=P5 G hr hg D.mg D.fn.kp D.bd .nil Vs ha hdb he hpl
end
theorem Th{α:Type}{xs:List α}{i:Int}(h0:0<=i)(h1:i<xs.length):∃v,atI xs i=some v/\xs[i.toNat]?=some v:=by
 have h2:i.toNat<xs.length:=by omega
 refine⟨xs[i.toNat],?_,by simp[h2]⟩;unfold atI ixN;rw[if_pos h0,if_pos h1];simp[h2]
theorem jY{α:Type}{xs:List α}{i:Nat}{v:α}(h:xs[i]?=some v):atI xs (i:Int)=some v:=by
 have h1:=(ab.mp h).1;unfold atI ixN;rw[if_pos (by omega),if_pos (by omega)];simpa using h
theorem Ba.upd{H:Hp}{a:Addr}{o:HO}(h:H a=none):Ba H (upd H a o):=λb u e=>by
 rw[bG (cM e h)];exact e
theorem Def.mk'{K:ah}{mg:Str->Option Value}{h:Heap}{x:Str}{st:Stmt}{f:Addr}{ps:List Str}{oc:Value}{od an:Option Addr}{osl:Array (Option Value)}{kV doc pm cdv ct:Value}(X:K.In h)(G:h.Ns cg mg)
  (a:de K cg x=some (some (.ref f))) (l:K.lookup f=some ⟨oc,od,.func (b9 x x (aR st) (aP st) (aE st) .none kV doc pm an cdv ct),osl⟩)
  (c:b8 K cdv x=true) (k:bp K (.ref f)=true)
  (b:∀(kV doc pm:Value)(an:Option Addr)(cdv ct:Value)(us:List Value),us.length=ps.length->bindArgs (b9 x x (aR st) (aP st) (aE st) .none kV doc pm an cdv ct) ⟨us,[]⟩=pure (ps.zip us)):
  Def K mg x st f (b9 x x (aR st) (aP st) (aE st) .none kV doc pm an cdv ct) ps:=
 ⟨F5 l c k,PySem.W.mg_of X G a,(F5 (st:=st) l c k).binds b⟩
end L2
namespace L2
open PySem PySem.Spec PyProof.Rows PySem.SeqAt
inductive D where
 |non|bl (b:Bool)|int (i:Int)|str (x:Str)|tup (xs:List D)
mutual
def D.depth:D->Nat
 |.tup xs=>D.depths xs+1
 |_=>0
def D.depths:List D->Nat
 |[]=>0
 |x::xs=>max (D.depth x) (D.depths xs)
end
theorem D.depths_le:∀{xs:List D}{i:Nat}{d:D},xs[i]?=some d->d.depth<=D.depths xs
 |[],_,_,h=>by simp at h
 |x::xs,0,d,h=>by
  have:x=d:=by simpa using h
  subst this
  show x.depth<=max x.depth (D.depths xs)
  omega
 |x::xs,i+1,d,h=>by
  have:=D.depths_le (xs:=xs) (i:=i) (d:=d) (by simpa using h)
  show d.depth<=max x.depth (D.depths xs)
  omega
mutual
/-- the value x is the datum,in the heap H -/
def Rep(K:ah)(H:Hp):D->V->Prop
 |.non,v=>v=.non
 |.bl b,v=>v=.bl b
 |.int i,v=>v=.int i
 |.str x,v=>v=.str x
 |.tup ds,v=>∃a vs,v=.ref a/\SqT K H a vs/\cD K H ds vs
def cD(K:ah)(H:Hp):List D->List V->Prop
 |[],[]=>True
 |d::ds,v::vs=>Rep K H d v/\cD K H ds vs
 |[],_::_=>False
 |_::_,[]=>False
end
mutual
/-- == -/
def eqD:D->D->Bool
 |.non,.non=>true
 |.bl a,.bl b=>a == b
 |.bl a,.int b=>(if a then 1 else 0) == b
 |.int a,.bl b=>a == (if b then 1 else 0)
 |.int a,.int b=>a == b
 |.str a,.str b=>a == b
 |.tup xs,.tup ys=>dX xs ys
 |_,_=>false
def dX:List D->List D->Bool
 |[],[]=>true
 |x::xs,y::ys=>eqD x y&&dX xs ys
 |[],_::_=>false
 |_::_,[]=>false
end
mutual
/-- < (none: an error) -/
def ltD:D->D->Option Bool
 |.int a,.int b=>some (decide (a<b))
 |.str a,.str b=>some (decide (a.cps.toList<b.cps.toList))
 |.tup xs,.tup ys=>Bf xs ys
 |_,_=>none
def Bf:List D->List D->Option Bool
 |[],[]=>some false
 |[],_::_=>some true
 |_::_,[]=>some false
 |x::xs,y::ys=>if eqD x y=true then Bf xs ys else ltD x y
end
mutual
theorem iE:∀d:D,eqD d d=true
 |.non=>rfl
 |.bl b=>by simp[eqD]
 |.int i=>by simp[eqD]
 |.str x=>by simp[eqD]
 |.tup xs=>by simp only[eqD];exact A1 xs
theorem A1:∀ds:List D,dX ds ds=true
 |[]=>rfl
 |d::ds=>by simp only[dX,iE d,A1 ds,Bool.and_self]
end
def iY(H H':Hp):Prop:=∀a xs,Rd H a (.tup xs)->Rd H' a (.tup xs)
theorem iY.refl(H:Hp):iY H H:=λ_ _ h=>h
theorem iY.trans{H H1 H2:Hp}(a:iY H H1)(b:iY H1 H2):iY H H2:=λc xs h=>b c xs (a c xs h)
theorem iY.same{H H':Hp}(s:Ba H H'):iY H H':=λa xs h=>by
 rcases h with h|⟨o,h⟩
 ·exact .inl (s _ _ h)
 ·exact .inr ⟨o,s _ _ h⟩
def CU:Option HO->Prop
 |some (.tup _)=>False
 |some (.frz _ _)=>False
 |_=>True
theorem iY.upd{H:Hp}{p:Addr}{o:HO}(h:CU (H p)):iY H (upd H p o):=λa xs q=>by
 have ne:a≠p:=by
  rintro rfl;rcases q with q|⟨ob,q⟩
  ·rw[q]at h;exact h
  ·rw[q]at h;exact h
 rcases q with q|⟨ob,q⟩
 ·exact .inl (by rw[bG ne];exact q)
 ·exact .inr ⟨ob,by rw[bG ne];exact q⟩
theorem iY.sq{K:ah}{H H':Hp}{a:Addr}{xs:List V}(t:iY H H')(h:SqT K H a xs):SqT K H' a xs:=by
 rcases h with h|h
 ·exact .inl (t a xs h)
 ·exact .inr h
section
variable{K:ah}{H H':Hp}
mutual
theorem Rep.tp(t:iY H H'):∀{d:D}{v:V},Rep K H d v->Rep K H' d v
 |.non,_,h=>h
 |.bl _,_,h=>h
 |.int _,_,h=>h
 |.str _,_,h=>h
 |.tup ds,_,⟨a,vs,e,q,r⟩=>⟨a,vs,e,t.sq q,cD.tp t r⟩
theorem cD.tp(t:iY H H'):∀{ds:List D}{vs:List V},cD K H ds vs->cD K H' ds vs
 |[],[],_=>trivial
 |_::_,_::_,⟨h,r⟩=>⟨Rep.tp t h,cD.tp t r⟩
 |[],_::_,h=>h.elim
 |_::_,[],h=>h.elim
end
theorem cD.length:∀{ds:List D}{vs:List V},cD K H ds vs->ds.length=vs.length
 |[],[],_=>rfl
 |_::_,_::_,⟨_,r⟩=>by simp[cD.length r]
 |[],_::_,h=>h.elim
 |_::_,[],h=>h.elim
theorem cD.get:∀{ds:List D}{vs:List V}{i:Nat}{v:V},cD K H ds vs->vs[i]?=some v->∃d,ds[i]?=some d/\Rep K H d v
 |[],[],_,_,_,e=>by simp at e
 |d::_,w::_,0,v,⟨h,_⟩,e=>by
  have:w=v:=by simpa using e
  subst this;exact⟨d,rfl,h⟩
 |_::ds,_::vs,i+1,v,⟨_,r⟩,e=>by
  obtain⟨d,h1,h2⟩:=cD.get (ds:=ds) (vs:=vs) (i:=i) (v:=v) r (by simpa using e)
  exact⟨d,by simpa using h1,h2⟩
 |[],_::_,_,_,h,_=>h.elim
 |_::_,[],_,_,h,_=>h.elim
theorem cD.at:∀{ds:List D}{vs:List V}{i:Nat}{d:D},cD K H ds vs->ds[i]?=some d->∃v,vs[i]?=some v/\Rep K H d v
 |[],[],_,_,_,e=>by simp at e
 |d::_,w::_,0,d',⟨h,_⟩,e=>by
  have:d=d':=by simpa using e
  subst this;exact⟨w,rfl,h⟩
 |_::ds,_::vs,i+1,d,⟨_,r⟩,e=>by
  obtain⟨v,h1,h2⟩:=cD.at (ds:=ds) (vs:=vs) (i:=i) (d:=d) r (by simpa using e)
  exact⟨v,by simpa using h1,h2⟩
 |[],_::_,_,_,h,_=>h.elim
 |_::_,[],_,_,h,_=>h.elim
end
section
variable{X:Cx}{pins:List (Addr×Obj)}{σ:St}{H:Hp}{s:Shared}
theorem dY{A:Around}{s:Shared}{v u:Value}{b:Bool}(h:RcAt A s v u b)(hs:v=u->b=true)(hf:∀f t,v≠.float f t):EqAt A s v u b:=λprog w E Q hq=>by
 unfold eqBool;refine c6 ?_;refine wpAny_ite_split (λhab=>?_) (λ_=>?_)
 ·have e:=hs (eq_of_beq hab);subst e;exact aa (j9 (ae hq))
 ·cases v <;> first|exact absurd rfl (hf _ _)|exact aa (h prog w E _ (iz hq))|(cases u <;> exact aa (h prog w E _ (iz hq)))
theorem A2{K:ah}{H:Hp}{d:D}{x:V}{v:Value}(h:Rep K H d x)(r:RelV x v):∀f t,v≠.float f t:=λf t e=>by
 subst e;cases d with
 |non=>cases h;cases r
 |bl b=>cases h;cases r
 |int b=>cases h;obtain⟨_,z⟩:=r;cases z
 |str b=>cases h;obtain⟨_,z⟩:=r;cases z
 |tup ds=>obtain⟨_,_,rfl,_⟩:=h;cases r
theorem lZ(I:Inv X pins σ H s):∀(n:Nat)(d e:D)(v:V),d.depth<=n->Rep X.K H d v->Rep X.K H e v->d=e
 |n,.non,e,v,_,h,h'=>by
  cases h
  cases e <;> first|(obtain⟨_,_,z,_⟩:=h';exact absurd z (by intro q;cases q))|rfl|exact absurd h' (by intro z;cases z)
 |n,.bl b,e,v,_,h,h'=>by
  cases h
  cases e <;> first|(obtain⟨_,_,z,_⟩:=h';exact absurd z (by intro q;cases q))|(cases h';rfl)|exact absurd h' (by intro z;cases z)
 |n,.int i,e,v,_,h,h'=>by
  cases h
  cases e <;> first|(obtain⟨_,_,z,_⟩:=h';exact absurd z (by intro q;cases q))|(cases h';rfl)|exact absurd h' (by intro z;cases z)
 |n,.str x,e,v,_,h,h'=>by
  cases h
  cases e <;> first|(obtain⟨_,_,z,_⟩:=h';exact absurd z (by intro q;cases q))|(cases h';rfl)|exact absurd h' (by intro z;cases z)
 |0,.tup ds,e,v,hd,h,h'=>absurd hd (by show ¬ D.depths ds+1<=0;omega)
 |n+1,.tup ds,e,v,hd,h,h'=>by
  obtain⟨a,vs,rfl,q,r⟩:=h;cases e with
  |tup es=>
   obtain⟨a',vs',ea,q',r'⟩:=h';cases ea
   have:=I.tuple_inj q q';subst this;have hd':D.depths ds+1<=n+1:=hd;have:ds=es:=by
    apply i3;intro i;cases hi:ds[i]? with
    |none=>
     have h1:=r.length;have h2:=r'.length;have:ds.length<=i:=j5.mp hi;exact(j5.mpr (by omega)).symm
    |some d=>
     obtain⟨v,hv,hr⟩:=r.at hi;obtain⟨e,he,hr'⟩:=r'.get hv;rw[he,lZ I n d e v (by have:=D.depths_le hi;omega) hr hr']
   rw[this]
  |_=>cases h'
theorem pD{xs ys:List D}:((av (min xs.length ys.length)).all (λj=>match xs[j]?,ys[j]? with|some x,some y=>eqD x y|_,_=>false)&&xs.length == ys.length)=dX xs ys:=by
 induction xs generalizing ys with
 |nil=>
  cases ys with
  |nil=>rfl
  |cons y ys=>simp[dX]
 |cons x xs ih=>
  cases ys with
  |nil=>simp[dX]
  |cons y ys=>
   have:=ih (ys:=ys);have e:min (x::xs).length (y::ys).length=min xs.length ys.length+1:=by simp only[dg];omega
   rw[e,List.range_succ_eq_map,jw,List.all_map];simp only[List.getElem?_cons_zero,Function.comp_def,g7,dg,dX];rw[<-this];have e2:(xs.length+1 == ys.length+1)=(xs.length == ys.length):=by simp
   rw[e2,Bool.and_assoc]
theorem VG(I:Inv X pins σ H s):∀(n:Nat)(d e:D)(A:Around)(x y:V)(v u:Value),d.depth<=n->A.units+n<cLine->Rep X.K H d x->Rep X.K H e y->RelV x v->RelV y u->RcAt A s v u (eqD d e):=by
 intro n
 induction n with
 |zero=>
  intro d e A x y v u hd hu hx hy rx ry;cases d with
  |tup ds=>exact absurd hd (by show ¬ D.depths ds+1<=0;omega)
  |non=>
   cases hx;cases rx;cases e with
   |non=>cases hy;cases ry;exact RcAt.none_none
   |bl b=>cases hy;cases ry;exact RcAt.none_bool b
   |int b=>cases hy;obtain⟨t,rfl⟩:=ry;exact RcAt.none_int b t
   |str b=>cases hy;obtain⟨t,rfl⟩:=ry;exact RcAt.none_str b t
   |tup es=>obtain⟨a,vs,rfl,q,r⟩:=hy;cases ry;obtain⟨its,_,p,_⟩:=I.tuple q;exact RcAt.none_tuple p (by omega)
  |bl a=>
   cases hx;cases rx;cases e with
   |non=>cases hy;cases ry;exact RcAt.bool_none a
   |bl b=>cases hy;cases ry;exact RcAt.bool_bool a b
   |int b=>cases hy;obtain⟨t,rfl⟩:=ry;exact RcAt.bool_int a b t
   |str b=>cases hy;obtain⟨t,rfl⟩:=ry;exact RcAt.bool_str a b t
   |tup es=>obtain⟨a',vs,rfl,q,r⟩:=hy;cases ry;obtain⟨its,_,p,_⟩:=I.tuple q;exact RcAt.bool_tuple a p (by omega)
  |int a=>
   cases hx;obtain⟨t',rfl⟩:=rx;cases e with
   |non=>cases hy;cases ry;exact RcAt.int_none a t'
   |bl b=>cases hy;cases ry;exact RcAt.int_bool a t' b
   |int b=>cases hy;obtain⟨t,rfl⟩:=ry;exact RcAt.int_int a t' b t
   |str b=>cases hy;obtain⟨t,rfl⟩:=ry;exact RcAt.int_str a t' b t
   |tup es=>obtain⟨a',vs,rfl,q,r⟩:=hy;cases ry;obtain⟨its,_,p,_⟩:=I.tuple q;exact RcAt.int_tuple a t' p (by omega)
  |str a=>
   cases hx;obtain⟨t',rfl⟩:=rx;cases e with
   |non=>cases hy;cases ry;exact RcAt.str_none a t'
   |bl b=>cases hy;cases ry;exact RcAt.str_bool a t' b
   |int b=>cases hy;obtain⟨t,rfl⟩:=ry;exact RcAt.str_int a t' b t
   |str b=>cases hy;obtain⟨t,rfl⟩:=ry;exact RcAt.str_str a t' b t
   |tup es=>obtain⟨a',vs,rfl,q,r⟩:=hy;cases ry;obtain⟨its,_,p,_⟩:=I.tuple q;exact RcAt.str_tuple a t' p (by omega)
 |succ n ih=>
  intro d e A x y v u hd hu hx hy rx ry
  by_cases h0:d.depth<=n
  ·exact ih d e A x y v u h0 (by omega) hx hy rx ry
  ·cases d with
   |non=>exact absurd (show D.depth .non<=n from bw n) h0
   |bl b=>exact absurd (show D.depth (.bl b)<=n from bw n) h0
   |int b=>exact absurd (show D.depth (.int b)<=n from bw n) h0
   |str b=>exact absurd (show D.depth (.str b)<=n from bw n) h0
   |tup ds=>
    have hds:D.depths ds<=n:=by have:D.depths ds+1<=n+1:=hd;omega
    obtain⟨a,vs,rfl,q,r⟩:=hx;cases rx
    obtain⟨its,rv,p,_⟩:=I.tuple q;cases e with
    |non=>cases hy;cases ry;exact RcAt.tuple_none p (by omega)
    |bl b=>cases hy;cases ry;exact RcAt.tuple_bool b p (by omega)
    |int b=>cases hy;obtain⟨t,rfl⟩:=ry;exact RcAt.tuple_int b t p (by omega)
    |str b=>cases hy;obtain⟨t,rfl⟩:=ry;exact RcAt.tuple_str b t p (by omega)
    |tup es=>
     obtain⟨a',vs',rfl,q',r'⟩:=hy;cases ry
     obtain⟨its',rv',p',_⟩:=I.tuple q';have l1:=r.length;have l2:=r'.length;have l3:=rv.length;have l4:=rv'.length;have key:=RcAt.tuples (A:=A) (e:=λj=>match ds[j]?,es[j]? with|some x,some y=>eqD x y|_,_=>false) p p' (by omega) (λj h1 h2=>by
      have h1':j<ds.length:=by simp at h1;omega
      have h2':j<es.length:=by simp at h2;omega
      have g1:ds[j]?=some ds[j]:=by simp[h1']
      have g2:es[j]?=some es[j]:=by simp[h2']
      obtain⟨xv,hxv,hrx⟩:=r.at g1;obtain⟨yv,hyv,hry⟩:=r'.at g2;obtain⟨xu,hxu,hru⟩:=rv.get hxv;obtain⟨yu,hyu,hru'⟩:=rv'.get hyv;have e1:its.toArray[j]=xu:=by
       have:its[j]?=some xu:=hxu;simpa using(ab.mp this).2
      have e2:its'.toArray[j]=yu:=by
       have:its'[j]?=some yu:=hyu;simpa using(ab.mp this).2
      rw[e1,e2];simp only[g1,g2];have hdj:=D.depths_le g1;refine dY (ih ds[j] es[j] A.in1 xv yv xu yu (by omega) (by show A.units+1+n<cLine;omega) hrx hry hru hru') (λev=>by
      subst ev;have exy:xv=yv:=RelV.inj hru hru';subst exy;rw[lZ I n ds[j] es[j] xv (by omega) hrx hry];exact iE _) (A2 hrx hru))
     have sz:((av (min its.toArray.size its'.toArray.size)).all (λj=>match ds[j]?,es[j]? with|some x,some y=>eqD x y|_,_=>false)&&its.toArray.size == its'.toArray.size)=eqD (.tup ds) (.tup es):=by
      have a1:its.toArray.size=ds.length:=by simp;omega
      have a2:its'.toArray.size=es.length:=by simp;omega
      rw[a1,a2];simp only[eqD];exact pD
     rw[<-sz];exact key
theorem Lo(I:Inv X pins σ H s){n:Nat}{d e:D}{A:Around}{x y:V}{v u:Value}(hd:d.depth<=n)(hu:A.units+n<cLine)(hx:Rep X.K H d x)(hy:Rep X.K H e y)(rx:RelV x v)(ry:RelV y u):EqAt A s v u (eqD d e):=
 dY (VG I n d e A x y v u hd hu hx hy rx ry) (λev=>by
  subst ev;have exy:x=y:=RelV.inj rx ry;subst exy;rw[lZ I n d e x hd hx hy];exact iE _) (A2 hx rx)
theorem Ti(I:Inv X pins σ H s):∀(n:Nat)(d e:D)(A:Around)(x y:V)(v u:Value),d.depth<=n->A.units+n<cLine->Rep X.K H d x->Rep X.K H e y->RelV x v->RelV y u->RcNeAt A s v u (!eqD d e):=by
 intro n
 induction n with
 |zero=>
  intro d e A x y v u hd hu hx hy rx ry;cases d with
  |tup ds=>exact absurd hd (by show ¬ D.depths ds+1<=0;omega)
  |non=>
   cases hx;cases rx;cases e with
   |non=>cases hy;cases ry;exact RcNeAt.none_none
   |bl b=>cases hy;cases ry;exact RcNeAt.none_bool b
   |int b=>cases hy;obtain⟨t,rfl⟩:=ry;exact RcNeAt.none_int b t
   |str b=>cases hy;obtain⟨t,rfl⟩:=ry;exact RcNeAt.none_str b t
   |tup es=>obtain⟨a,vs,rfl,q,r⟩:=hy;cases ry;obtain⟨its,_,p,_⟩:=I.tuple q;exact RcNeAt.none_tuple p (by omega)
  |bl a=>
   cases hx;cases rx;cases e with
   |non=>cases hy;cases ry;exact RcNeAt.bool_none a
   |bl b=>cases hy;cases ry;exact RcNeAt.bool_bool a b
   |int b=>cases hy;obtain⟨t,rfl⟩:=ry;exact RcNeAt.bool_int a b t
   |str b=>cases hy;obtain⟨t,rfl⟩:=ry;exact RcNeAt.bool_str a b t
   |tup es=>obtain⟨a',vs,rfl,q,r⟩:=hy;cases ry;obtain⟨its,_,p,_⟩:=I.tuple q;exact RcNeAt.bool_tuple a p (by omega)
  |int a=>
   cases hx;obtain⟨t',rfl⟩:=rx;cases e with
   |non=>cases hy;cases ry;exact RcNeAt.int_none a t'
   |bl b=>cases hy;cases ry;exact RcNeAt.int_bool a t' b
   |int b=>cases hy;obtain⟨t,rfl⟩:=ry;exact RcNeAt.int_int a t' b t
   |str b=>cases hy;obtain⟨t,rfl⟩:=ry;exact RcNeAt.int_str a t' b t
   |tup es=>obtain⟨a',vs,rfl,q,r⟩:=hy;cases ry;obtain⟨its,_,p,_⟩:=I.tuple q;exact RcNeAt.int_tuple a t' p (by omega)
  |str a=>
   cases hx;obtain⟨t',rfl⟩:=rx;cases e with
   |non=>cases hy;cases ry;exact RcNeAt.str_none a t'
   |bl b=>cases hy;cases ry;exact RcNeAt.str_bool a t' b
   |int b=>cases hy;obtain⟨t,rfl⟩:=ry;exact RcNeAt.str_int a t' b t
   |str b=>cases hy;obtain⟨t,rfl⟩:=ry;exact RcNeAt.str_str a t' b t
   |tup es=>obtain⟨a',vs,rfl,q,r⟩:=hy;cases ry;obtain⟨its,_,p,_⟩:=I.tuple q;exact RcNeAt.str_tuple a t' p (by omega)
 |succ n ih=>
  intro d e A x y v u hd hu hx hy rx ry
  by_cases h0:d.depth<=n
  ·exact ih d e A x y v u h0 (by omega) hx hy rx ry
  ·cases d with
   |non=>exact absurd (show D.depth .non<=n from bw n) h0
   |bl b=>exact absurd (show D.depth (.bl b)<=n from bw n) h0
   |int b=>exact absurd (show D.depth (.int b)<=n from bw n) h0
   |str b=>exact absurd (show D.depth (.str b)<=n from bw n) h0
   |tup ds=>
    have hds:D.depths ds<=n:=by have:D.depths ds+1<=n+1:=hd;omega
    obtain⟨a,vs,rfl,q,r⟩:=hx;cases rx
    obtain⟨its,rv,p,_⟩:=I.tuple q;cases e with
    |non=>cases hy;cases ry;exact RcNeAt.tuple_none p (by omega)
    |bl b=>cases hy;cases ry;exact RcNeAt.tuple_bool b p (by omega)
    |int b=>cases hy;obtain⟨t,rfl⟩:=ry;exact RcNeAt.tuple_int b t p (by omega)
    |str b=>cases hy;obtain⟨t,rfl⟩:=ry;exact RcNeAt.tuple_str b t p (by omega)
    |tup es=>
     obtain⟨a',vs',rfl,q',r'⟩:=hy;cases ry
     obtain⟨its',rv',p',_⟩:=I.tuple q';have l1:=r.length;have l2:=r'.length;have l3:=rv.length;have l4:=rv'.length;have key:=RcNeAt.tuples (A:=A) (e:=λj=>match ds[j]?,es[j]? with|some x,some y=>eqD x y|_,_=>false) p p' (by omega) (λj h1 h2=>by
      have h1':j<ds.length:=by simp at h1;omega
      have h2':j<es.length:=by simp at h2;omega
      have g1:ds[j]?=some ds[j]:=by simp[h1']
      have g2:es[j]?=some es[j]:=by simp[h2']
      obtain⟨xv,hxv,hrx⟩:=r.at g1;obtain⟨yv,hyv,hry⟩:=r'.at g2;obtain⟨xu,hxu,hru⟩:=rv.get hxv;obtain⟨yu,hyu,hru'⟩:=rv'.get hyv;have e1:its.toArray[j]=xu:=by
       have:its[j]?=some xu:=hxu;simpa using(ab.mp this).2
      have e2:its'.toArray[j]=yu:=by
       have:its'[j]?=some yu:=hyu;simpa using(ab.mp this).2
      rw[e1,e2];simp only[g1,g2];have hdj:=D.depths_le g1;exact Lo I (n:=n) (by omega) (by show A.units+1+n<cLine;omega) hrx hry hru hru')
     have sz:(!((av (min its.toArray.size its'.toArray.size)).all (λj=>match ds[j]?,es[j]? with|some x,some y=>eqD x y|_,_=>false)&&its.toArray.size == its'.toArray.size))=(!eqD (.tup ds) (.tup es)):=by
      have a1:its.toArray.size=ds.length:=by simp;omega
      have a2:its'.toArray.size=es.length:=by simp;omega
      rw[a1,a2];simp only[eqD];rw[pD]
     rw[<-sz];exact key
def XC(K:ah):R2:=λx y H Q=>∃d e,Rep K H d x/\Rep K H e y/\d.depth<=40/\Q (.bl (eqD d e)) H
def XD(K:ah):R2:=λx y H Q=>∃d e,Rep K H d x/\Rep K H e y/\d.depth<=40/\Q (.bl (!eqD d e)) H
theorem Tj(hu:X.A.units+64<cLine)(K:ah)(hK:X.K=K):OpR X (c9 .Eq) (XC K):=by
 subst hK;intro pins s σ H x y v u Q I rx ry h;obtain⟨d,e,hx,hy,hd,q⟩:=h;exact VG I 40 d e X.A x y v u hd (by omega) hx hy rx ry X.prog X.w X.xe _ ⟨.bl _,H,I,rfl,q⟩
theorem Tn(hu:X.A.units+64<cLine)(K:ah)(hK:X.K=K):OpR X (c9 .NotEq) (XD K):=by
 subst hK;intro pins s σ H x y v u Q I rx ry h;obtain⟨d,e,hx,hy,hd,q⟩:=h;exact Ti I 40 d e X.A x y v u hd (by omega) hx hy rx ry X.prog X.w X.xe _ ⟨.bl _,H,I,rfl,q⟩
def CV(K:ah)(H:Hp)(ds:List D)(v:V):Prop:=∃a vs,v=.ref a/\SqL K H a vs/\cD K H ds vs
theorem rO{xs ys:List D}(h:xs.length=ys.length):(av xs.length).all (λj=>match xs[j]?,ys[j]? with|some x,some y=>eqD x y|_,_=>false)=dX xs ys:=by
 have:=pD (xs:=xs) (ys:=ys);rw[h,Nat.min_self,beq_self_eq_true,Bool.and_true]at this;rw[h];exact this
theorem vM{xs ys:List D}(h:dX xs ys=true):xs.length=ys.length:=by
 rw[<-pD,cw]at h;exact eq_of_beq h.2
theorem nX{I:Inv X pins σ H s}{A:Around}{ds es:List D}{vs vs':List V}{its its':List Value}(r:cD X.K H ds vs)(r':cD X.K H es vs')(rv:aO vs its)(rv':aO vs' its')(hd:D.depths ds<=40)(hu:A.units+42<cLine):
  ∀j(h1:j<its.toArray.size)(h2:j<its'.toArray.size),EqAt A.in1 s its.toArray[j] its'.toArray[j] (match ds[j]?,es[j]? with|some x,some y=>eqD x y|_,_=>false):=λj h1 h2=>by
 have l1:=r.length;have l2:=r'.length;have l3:=rv.length;have l4:=rv'.length;have h1':j<ds.length:=by simp at h1;omega
 have h2':j<es.length:=by simp at h2;omega
 have g1:ds[j]?=some ds[j]:=by simp[h1']
 have g2:es[j]?=some es[j]:=by simp[h2']
 obtain⟨xv,hxv,hrx⟩:=r.at g1;obtain⟨yv,hyv,hry⟩:=r'.at g2;obtain⟨xu,hxu,hru⟩:=rv.get hxv;obtain⟨yu,hyu,hru'⟩:=rv'.get hyv;have e1:its.toArray[j]=xu:=by simpa using(ab.mp hxu).2
 have e2:its'.toArray[j]=yu:=by simpa using(ab.mp hyu).2
 rw[e1,e2];simp only[g1,g2];have hdj:=D.depths_le g1;exact Lo I (n:=40) (by omega) (by show A.units+1+40<cLine;omega) hrx hry hru hru'
def XE(K:ah):R2:=λx y H Q=>∃ds es,CV K H ds x/\CV K H es y/\D.depths ds<=40/\Q (.bl (dX ds es)) H
def XF(K:ah):R2:=λx y H Q=>∃ds es,CV K H ds x/\CV K H es y/\D.depths ds<=40/\Q (.bl (!dX ds es)) H
theorem To(hu:X.A.units+64<cLine)(K:ah)(hK:X.K=K):OpR X (c9 .Eq) (XE K):=by
 subst hK;intro pins s σ H x y v u Q I rx ry h;obtain⟨ds,es,⟨a,vs,rfl,q,r⟩,⟨b,vs',rfl,q',r'⟩,hd,k⟩:=h;cases rx;cases ry;obtain⟨its,rv,p,_⟩:=I.list q;obtain⟨its',rv',p',_⟩:=I.list q';have l1:=r.length;have l2:=r'.length;have l3:=rv.length;have l4:=rv'.length
 by_cases hl:ds.length=es.length
 ·refine eq_listAt p.isList p'.isList (by simp;omega) (by omega) (nX (I:=I) r r' rv rv' hd (by omega)) ⟨.bl _,H,I,rfl,?_⟩;have e1:its.toArray.size=ds.length:=by simp;omega
  rw[e1,rO hl];exact k
 ·refine eq_list_lengthsAt p.isList p'.isList (by simp;omega) (by omega) ⟨.bl false,H,I,rfl,?_⟩;have e:dX ds es=false:=by
   cases h:dX ds es with
   |false=>rfl
   |true=>exact absurd (vM h) hl
  rw[e]at k;exact k
theorem Tp(hu:X.A.units+64<cLine)(K:ah)(hK:X.K=K):OpR X (c9 .NotEq) (XF K):=by
 subst hK;intro pins s σ H x y v u Q I rx ry h;obtain⟨ds,es,⟨a,vs,rfl,q,r⟩,⟨b,vs',rfl,q',r'⟩,hd,k⟩:=h;cases rx;cases ry;obtain⟨its,rv,p,_⟩:=I.list q;obtain⟨its',rv',p',_⟩:=I.list q';have l1:=r.length;have l2:=r'.length;have l3:=rv.length;have l4:=rv'.length
 by_cases hl:ds.length=es.length
 ·refine RcNeAt.lists p.isList p'.isList (by simp;omega) (by omega) (nX (I:=I) r r' rv rv' hd (by omega)) X.prog X.w X.xe _ ⟨.bl _,H,I,rfl,?_⟩;have e1:its.toArray.size=ds.length:=by simp;omega
  rw[e1,rO hl];exact k
 ·refine RcNeAt.lists_lengths p.isList p'.isList (by simp;omega) (by omega) X.prog X.w X.xe _ ⟨.bl true,H,I,rfl,?_⟩;have e:dX ds es=false:=by
   cases h:dX ds es with
   |false=>rfl
   |true=>exact absurd (vM h) hl
  rw[e]at k;exact k
def XG(K:ah)(neg:Bool):R2:=λx y H Q=>∃d p ds vs,y=.ref p/\(SqL K H p vs\/SqT K H p vs)/\Rep K H d x/\cD K H ds vs/\D.depths ds<=40/\Q (.bl (if neg then !ds.any (λe=>eqD e d) else ds.any (λe=>eqD e d))) H
noncomputable def isD(K:ah)(H:Hp)(d:D)(u:Value):Bool:=@decide (∃e x,RelV x u/\Rep K H e x/\e.depth<=40/\eqD e d=true) (g9 _)
theorem Lp(I:Inv X pins σ H s){d e:D}{x:V}{u:Value}(r:RelV x u)(h:Rep X.K H e x)(hd:e.depth<=40):isD X.K H d u=eqD e d:=by
 unfold isD;cases q:eqD e d with
 |true=>exact @decide_eq_true _ (g9 _) ⟨e,x,r,h,hd,q⟩
 |false=>
  refine @decide_eq_false _ (g9 _) ?_;rintro⟨e',x',r',h',hd',q'⟩;have ex:x'=x:=RelV.inj r' r;subst ex;rw[lZ I 40 e' e x' hd' h' h]at q';rw[q]at q';cases q'
theorem Bg(I:Inv X pins σ H s){d:D}:∀{ds:List D}{vs:List V}{us:List Value},cD X.K H ds vs->aO vs us->D.depths ds<=40->us.any (isD X.K H d)=ds.any λe=>eqD e d
 |[],[],_,_,.nil,_=>rfl
 |e::ds,_::_,_,⟨h,r⟩,.cons rv rvs,hd=>by
  have h1:e.depth<=40/\D.depths ds<=40:=by
   have:max e.depth (D.depths ds)<=40:=hd;omega
  rw[k6,k6,Lp I rv h h1.1,Bg I r rvs h1.2]
 |[],_::_,_,h,_,_=>h.elim
 |_::_,[],_,h,_,_=>h.elim
theorem Bh(I:Inv X pins σ H s){A:Around}{d:D}{x:V}{v:Value}(hx:Rep X.K H d x)(rx:RelV x v)(hu:A.units+42<cLine):∀{ds:List D}{vs:List V}{us:List Value},cD X.K H ds vs->aO vs us->D.depths ds<=40->∀u∈us,EqAt A.in1 s u v (isD X.K H d u)
 |[],[],_,_,.nil,_=>λu hu=>by cases hu
 |e::ds,_::_,_,⟨h,r⟩,.cons rv rvs,hd=>λu hm=>by
  have h1:e.depth<=40/\D.depths ds<=40:=by
   have:max e.depth (D.depths ds)<=40:=hd;omega
  rcases ba.mp hm with rfl|hm
  ·rw[Lp I rv h h1.1];exact Lo I (n:=40) h1.1 (by show A.units+1+40<cLine;omega) h hx rv rx
  ·exact Bh I hx rx hu r rvs h1.2 u hm
 |[],_::_,_,h,_,_=>h.elim
 |_::_,[],_,h,_,_=>h.elim
theorem J5(hu:X.A.units+64<cLine)(K:ah)(hK:X.K=K):OpR X (c9 .NotIn) (XG K true):=by
 subst hK;intro pins s σ H x y v u Q I rx ry h;obtain⟨d,p,ds,vs,rfl,hq,hx,hr,hd,k⟩:=h;cases ry
 rcases hq with hq|hq
 ·obtain⟨its,r,pl,hz⟩:=I.list hq;refine SeqAt.notIn_listAt (isD X.K H d) pl.isList (λw hw=>Bh I hx rx (by omega) hr r hd w (by simpa using hw)) ⟨.bl _,H,I,rfl,?_⟩
  rw[show its.toArray.any (isD X.K H d)=its.any (isD X.K H d) by simp,Bg I hr r hd];exact k
 ·obtain⟨its,r,pl,hz⟩:=I.tuple hq;refine SeqAt.notIn_tupleAt (isD X.K H d) pl (λw hw=>Bh I hx rx (by omega) hr r hd w (by simpa using hw)) ⟨.bl _,H,I,rfl,?_⟩
  rw[show its.toArray.any (isD X.K H d)=its.any (isD X.K H d) by simp,Bg I hr r hd];exact k
end
end L2
namespace L2
open PySem
def keyLt:Sum Int Str->Sum Int Str->Bool
 |.inl a,.inl b=>decide (a<b)
 |.inr a,.inr b=>decide (a.cps.toList<b.cps.toList)
 |_,_=>false
def bM:List (Sum Int Str)->List (Sum Int Str)->Bool
 |[],[]=>false
 |[],_::_=>true
 |_::_,[]=>false
 |x::xs,y::ys=>if x=y then bM xs ys else keyLt x y
def cS:Sum Int Str->Bool
 |.inl _=>true
 |.inr _=>false
abbrev shape(ks:List (Sum Int Str)):List Bool:=ks.map cS
theorem Pp{a b:Str}(h:a.cps.toList=b.cps.toList):a=b:=by
 cases a;cases b
 congr
 exact Array.toList_inj.mp h
theorem Lq{a b:Sum Int Str}(h:keyLt a b=true):keyLt b a=false:=by
 cases a <;> cases b <;> first|rfl|skip
 ·have:_<_:=of_decide_eq_true h;exact decide_eq_false (by omega)
 ·exact decide_eq_false (List.lt_asymm (of_decide_eq_true h))
theorem A3{a b:Sum Int Str}(k:cS a=cS b)(h:keyLt a b=false)(h':keyLt b a=false):a=b:=by
 cases a <;> cases b <;> first|cases k|skip
 ·have h1:=of_decide_eq_false h;have h2:=of_decide_eq_false h'
  congr 1
  omega
 ·have h1:=of_decide_eq_false h;have h2:=of_decide_eq_false h'
  congr 1
  exact Pp (List.le_antisymm (List.not_lt.mp h2) (List.not_lt.mp h1))
theorem Lr:∀{a b c:Sum Int Str},cS a=cS b->cS b=cS c->keyLt b a=false->keyLt c b=false->keyLt c a=false
 |.inl a,.inl b,.inl c,_,_,h,h'=>by
  have h1:¬ b<a:=of_decide_eq_false h;have h2:¬ c<b:=of_decide_eq_false h';exact decide_eq_false (by omega)
 |.inr a,.inr b,.inr c,_,_,h,h'=>by
  have h1:a.cps.toList<=b.cps.toList:=List.not_lt.mp (of_decide_eq_false h);have h2:b.cps.toList<=c.cps.toList:=List.not_lt.mp (of_decide_eq_false h');exact decide_eq_false (List.not_lt.mpr (List.le_trans h1 h2))
 |.inl _,.inr _,_,k,_,_,_=>by cases k
 |.inr _,.inl _,_,k,_,_,_=>by cases k
 |.inl _,.inl _,.inr _,_,k,_,_=>by cases k
 |.inr _,.inr _,.inl _,_,k,_,_=>by cases k
theorem pE:∀{a b:List (Sum Int Str)},bM a b=true->bM b a=false
 |[],[],_=>rfl
 |[],_::_,_=>rfl
 |_::_,[],h=>by cases h
 |x::xs,y::ys,h=>by
  unfold bM at h⊢
  by_cases e:x=y
  ·subst e;rw[if_pos rfl]at h⊢;exact pE h
  ·rw[if_neg e]at h;rw[if_neg λz=>e z.symm];exact Lq h
theorem jZ:∀{a b:List (Sum Int Str)},shape a=shape b->bM a b=false->bM b a=false->a=b
 |[],[],_,_,_=>rfl
 |[],_::_,s,_,_=>by cases s
 |_::_,[],s,_,_=>by cases s
 |x::xs,y::ys,s,h,h'=>by
  have s1:cS x=cS y:=by simpa using congrArg List.head? s
  have s2:shape xs=shape ys:=by simpa using congrArg List.tail s
  unfold bM at h h'
  by_cases e:x=y
  ·subst e;rw[if_pos rfl]at h h';rw[jZ s2 h h']
  ·rw[if_neg e]at h;rw[if_neg λz=>e z.symm]at h';exact absurd (A3 s1 h h') e
theorem mB:∀{a b c:List (Sum Int Str)},shape a=shape b->shape b=shape c->bM b a=false->bM c b=false->bM c a=false
 |[],[],[],_,_,_,_=>rfl
 |[],[],_::_,_,s',_,_=>by cases s'
 |[],_::_,_,s,_,_,_=>by cases s
 |_::_,[],_,s,_,_,_=>by cases s
 |_::_,_::_,[],_,s',_,_=>by cases s'
 |x::xs,y::ys,z::zs,s,s',h,h'=>by
  have s1:cS x=cS y:=by simpa using congrArg List.head? s
  have s2:shape xs=shape ys:=by simpa using congrArg List.tail s
  have s3:cS y=cS z:=by simpa using congrArg List.head? s'
  have s4:shape ys=shape zs:=by simpa using congrArg List.tail s'
  unfold bM at h h'⊢
  by_cases e:y=x
  ·subst e;rw[if_pos rfl]at h
   by_cases e':z=y
   ·subst e';rw[if_pos rfl]at h'⊢;exact mB s2 s4 h h'
   ·rw[if_neg e']at h'⊢;exact h'
  ·rw[if_neg e]at h
   by_cases e':z=y
   ·subst e';rw[if_neg e];exact h
   ·rw[if_neg e']at h'
    by_cases e2:z=x
    ·subst e2;exfalso;exact e (A3 s3 h h')
    ·rw[if_neg e2];exact Lr s1 s3 h h'
end L2
namespace L2
open PySem PySem.W PyProof.Rows
section
variable(lt:Nat->Nat->Bool)
def evT{α:Type}:KasT α->α
 |.ret a=>a
 |.ask i j k=>evT (k (lt i j))
theorem iF{α β:Type}(f:α->KasT β):∀t:KasT α,evT lt (t.bind f)=evT lt (f (evT lt t))
 |.ret _=>rfl
 |.ask i j k=>iF f (k (lt i j))
abbrev pa'(p:Array Nat)(i:Nat):Nat:=p.getD i 0
def STo(p:Array Nat)(k:Nat):Prop:=∀i j,i<=j->j<k->lt (pa' p j) (pa' p i)=false
def NIc(p:Array Nat)(k:Nat):Prop:=∀i j,i<=j->j<k->lt (pa' p i) (pa' p j)=false
end
theorem fY{p:Array Nat}{i:Nat}:pa' p i=(p[i]?).getD 0:=by
 unfold pa';simp[Array.getD_eq_getD_getElem?]
structure Ls(lt:Nat->Nat->Bool)(p:Array Nat)(n f:Nat)(r:Array Nat×Nat×Nat):Prop where
 perm:r.1.Perm p
 lo:n<=r.2.1
 hi:r.2.1<=n+f
 q:r.2.2+1<=r.2.1
 ni:NIc lt r.1 r.2.1
 eq:∀i j,r.2.1-(r.2.2+1)<=i->i<r.2.1->r.2.1-(r.2.2+1)<=j->j<r.2.1->lt (pa' r.1 i) (pa' r.1 j)=false
section
variable{lt:Nat->Nat->Bool}(tr:∀i j k,lt j i=false->lt k j=false->lt k i=false)(as:∀i j,lt i j=true->lt j i=false)
include as in
theorem fE(i:Nat):lt i i=false:=by
 cases h:lt i i with
 |false=>rfl
 |true=>have:=as i i h;rw[h]at this;exact this
include tr as
theorem F9(p:Array Nat):∀f n,1<=n->STo lt p n->n<=evT lt (kas_asc p f n)/\evT lt (kas_asc p f n)<=n+f/\STo lt p (evT lt (kas_asc p f n))
 |0,n,_,h=>⟨ak _,ak _,h⟩
 |f+1,n,h1,h=>by
  have e:evT lt (kas_asc p (f+1) n)=evT lt (if lt (p.getD n 0) (p.getD (n-1) 0)=true then KasT.ret n else kas_asc p f (n+1)):=rfl;rw[e]
  by_cases c:lt (p.getD n 0) (p.getD (n-1) 0)=true
  ·rw[if_pos c];exact⟨ak _,Nat.le_add_right _ _,h⟩
  ·rw[if_neg c];have c':lt (p.getD n 0) (p.getD (n-1) 0)=false:=by simpa using c
   have h2:STo lt p (n+1):=λi j hij hj=>by
    rcases ia (Nat.le_of_lt_succ hj) with hj|rfl
    ·exact h i j hij hj
    ·rcases ia hij with hi|rfl
     ·exact tr _ _ _ (h i (j-1) (by omega) (by omega)) c'
     ·exact fE as _
   obtain⟨a,b,c⟩:=F9 p f (n+1) (by omega) h2;exact⟨by omega,by omega,c⟩
theorem rev_eq{p:Array Nat}{a n:Nat}(hn:n<=p.size)(eq:∀i j,a<=i->i<n->a<=j->j<n->lt (pa' p i) (pa' p j)=false)(i j:Nat):
  lt (pa' (kas_rev p a n) i) (pa' (kas_rev p a n) j)=lt (pa' p i) (pa' p j):=by
 have g:∀k,pa' (kas_rev p a n) k=if a<=k/\k<n then pa' p (a+n-1-k) else pa' p k:=λk=>by
  rw[fY,fY,fY];unfold kas_rev;rw[getElem?_mirror_all hn];split <;> rfl
 have sim:∀k,∃k',pa' (kas_rev p a n) k=pa' p k'/\lt (pa' p k) (pa' p k')=false/\lt (pa' p k') (pa' p k)=false:=λk=>by
  rw[g]
  by_cases h:a<=k/\k<n
  ·rw[if_pos h];exact⟨_,rfl,eq _ _ h.1 h.2 (by omega) (by omega),eq _ _ (by omega) (by omega) h.1 h.2⟩
  ·rw[if_neg h];exact⟨k,rfl,fE as _,fE as _⟩
 obtain⟨i',ei,i1,i2⟩:=sim i;obtain⟨j',ej,j1,j2⟩:=sim j;rw[ei,ej];cases h1:lt (pa' p i) (pa' p j) with
 |false=>exact tr _ _ _ j1 (tr _ _ _ h1 i2)
 |true=>
  cases h2:lt (pa' p i') (pa' p j') with
  |true=>rfl
  |false=>
   have:=tr _ _ _ j2 (tr _ _ _ h2 i1);rw[h1]at this;exact this.symm
theorem Bi:∀f (p:Array Nat) n q,n+f<=p.size->q+1<=n->NIc lt p n->(∀i j,n-(q+1)<=i->i<n->n-(q+1)<=j->j<n->lt (pa' p i) (pa' p j)=false)->Ls lt p n f (evT lt (kas_desc f p n q))
 |0,p,n,q,_,hq,hN,hE=>⟨m6 _,ak _,ak _,hq,hN,hE⟩
 |f+1,p,n,q,hs,hq,hN,hE=>by
  have e:evT lt (kas_desc (f+1) p n q)=evT lt (if lt (p.getD n 0) (p.getD (n-1) 0)=true then(if q>0 then kas_desc f (kas_rev p (n-(q+1)) n) (n+1) 0 else kas_desc f p (n+1) 0)
    else .ask (p.getD (n-1) 0) (p.getD n 0) λd=>if d=true then .ret (p,n,q) else kas_desc f p (n+1) (q+1)):=rfl
  by_cases c:lt (p.getD n 0) (p.getD (n-1) 0)=true
  ·have down:∀p':Array Nat,p'.Perm p->(∀i j,lt (pa' p' i) (pa' p' j)=lt (pa' p i) (pa' p j))->evT lt (kas_desc (f+1) p n q)=evT lt (kas_desc f p' (n+1) 0)->Ls lt p n (f+1) (evT lt (kas_desc (f+1) p n q)):=λp' hp hl hev=>by
    have hN':NIc lt p' (n+1):=λi j hij hj=>by
     rw[hl];rcases ia (Nat.le_of_lt_succ hj) with hj|rfl
     ·exact hN i j hij hj
     ·rcases ia hij with hi|rfl
      ·exact tr _ _ _ (as _ _ c) (hN i (j-1) (by omega) (by omega))
      ·exact fE as _
    have hE':∀i j,n+1-(0+1)<=i->i<n+1->n+1-(0+1)<=j->j<n+1->lt (pa' p' i) (pa' p' j)=false:=λi j h1 h2 h3 h4=>by
     have:i=j:=by omega
     subst this;exact fE as _
    have ih:=Bi f p' (n+1) 0 (by rw[hp.size_eq];omega) (by omega) hN' hE';rw[<-hev]at ih;obtain⟨a1,a2,a3,a4,a5,a6⟩:=ih;exact⟨a1.trans hp,by omega,by omega,a4,a5,a6⟩
   rw[if_pos c]at e
   by_cases hq0:q>0
   ·rw[if_pos hq0]at e;exact down _ (m7 _ _ _ _) (rev_eq tr as (by omega) hE) e
   ·rw[if_neg hq0]at e;exact down p (m6 _) (λ_ _=>rfl) e
  ·rw[if_neg c]at e;have c':lt (p.getD n 0) (p.getD (n-1) 0)=false:=by simpa using c
   have e2:evT lt (kas_desc (f+1) p n q)=evT lt (if lt (p.getD (n-1) 0) (p.getD n 0)=true then KasT.ret (p,n,q) else kas_desc f p (n+1) (q+1)):=e
   by_cases d:lt (p.getD (n-1) 0) (p.getD n 0)=true
   ·rw[if_pos d]at e2;rw[e2];exact⟨m6 _,ak _,Nat.le_add_right _ _,hq,hN,hE⟩
   ·rw[if_neg d]at e2;have d':lt (p.getD (n-1) 0) (p.getD n 0)=false:=by simpa using d
    have hN':NIc lt p (n+1):=λi j hij hj=>by
     rcases ia (Nat.le_of_lt_succ hj) with hj|rfl
     ·exact hN i j hij hj
     ·rcases ia hij with hi|rfl
      ·exact tr _ _ _ d' (hN i (j-1) (by omega) (by omega))
      ·exact fE as _
    have hE':∀i j,n+1-(q+1+1)<=i->i<n+1->n+1-(q+1+1)<=j->j<n+1->lt (pa' p i) (pa' p j)=false:=λi j h1 h2 h3 h4=>by
     by_cases hi:i=n
     ·by_cases hj:j=n
      ·rw[hi,hj];exact fE as _
      ·rw[hi];exact tr _ _ _ (hE (n-1) j (by omega) (by omega) (by omega) (by omega)) c'
     ·by_cases hj:j=n
      ·rw[hj];exact tr _ _ _ d' (hE i (n-1) (by omega) (by omega) (by omega) (by omega))
      ·exact hE i j (by omega) (by omega) (by omega) (by omega)
    have ih:=Bi f p (n+1) (q+1) (by omega) (by omega) hN' hE';rw[<-e2]at ih;obtain⟨a1,a2,a3,a4,a5,a6⟩:=ih;exact⟨a1,by omega,by omega,a4,a5,a6⟩
theorem CW{n nrem:Nat}{p:Array Nat}(h1:1<=n)(hn:n<=nrem)(hz:nrem<=p.size)(hN:NIc lt p n):
  n<=(evT lt (kas_tail3 n nrem p)).1/\(evT lt (kas_tail3 n nrem p)).1<=nrem/\(evT lt (kas_tail3 n nrem p)).2.Perm p/\STo lt (evT lt (kas_tail3 n nrem p)).2 (evT lt (kas_tail3 n nrem p)).1:=by
 have e:evT lt (kas_tail3 n nrem p)=(evT lt (kas_asc (kas_rev p 0 n) (nrem-n) n),kas_rev p 0 n):=by
  unfold kas_tail3;rw[iF];rfl
 have g:∀k,k<n->pa' (kas_rev p 0 n) k=pa' p (n-1-k):=λk hk=>by
  rw[fY,fY];unfold kas_rev;rw[getElem?_mirror_all (by omega),if_pos (by omega)]
  congr 2
  omega
 have hS:STo lt (kas_rev p 0 n) n:=λi j hij hj=>by
  rw[g i (by omega),g j hj];exact hN _ _ (by omega) (by omega)
 obtain⟨a,b,c⟩:=F9 tr as (kas_rev p 0 n) (nrem-n) n h1 hS;rw[e];exact⟨a,by show evT lt (kas_asc (kas_rev p 0 n) (nrem-n) n)<=nrem;omega,m7 _ _ _ _,c⟩
theorem tT{n nrem:Nat}{p:Array Nat}(h1:1<=n)(hn:n+1<=nrem)(hz:nrem<=p.size)(hN:NIc lt p n)(hd:lt (pa' p n) (pa' p (n-1))=true):
  1<=(evT lt (kas_descPart n nrem p)).1/\(evT lt (kas_descPart n nrem p)).1<=nrem/\(evT lt (kas_descPart n nrem p)).2.Perm p/\STo lt (evT lt (kas_descPart n nrem p)).2 (evT lt (kas_descPart n nrem p)).1:=by
 have hN':NIc lt p (n+1):=λi j hij hj=>by
  rcases ia (Nat.le_of_lt_succ hj) with hj|rfl
  ·exact hN i j hij hj
  ·rcases ia hij with hi|rfl
   ·exact tr _ _ _ (as _ _ hd) (hN i (j-1) (by omega) (by omega))
   ·exact fE as _
 have hE':∀i j,n+1-(0+1)<=i->i<n+1->n+1-(0+1)<=j->j<n+1->lt (pa' p i) (pa' p j)=false:=λi j h1 h2 h3 h4=>by
  have:i=j:=by omega
  subst this;exact fE as _
 have D:=Bi tr as (nrem-(n+1)) p (n+1) 0 (by omega) (by omega) hN' hE';have e:evT lt (kas_descPart n nrem p)=evT lt (if(evT lt (kas_desc (nrem-(n+1)) p (n+1) 0)).2.2>0 then kas_tail3 (evT lt (kas_desc (nrem-(n+1)) p (n+1) 0)).2.1 nrem (kas_rev (evT lt (kas_desc (nrem-(n+1)) p (n+1) 0)).1 ((evT lt (kas_desc (nrem-(n+1)) p (n+1) 0)).2.1-((evT lt (kas_desc (nrem-(n+1)) p (n+1) 0)).2.2+1)) (evT lt (kas_desc (nrem-(n+1)) p (n+1) 0)).2.1) else kas_tail3 (evT lt (kas_desc (nrem-(n+1)) p (n+1) 0)).2.1 nrem (evT lt (kas_desc (nrem-(n+1)) p (n+1) 0)).1):=by
  unfold kas_descPart;rw[iF]
 generalize evT lt (kas_desc (nrem-(n+1)) p (n+1) 0)=r at D e;obtain⟨a1,a2,a3,a4,a5,a6⟩:=D;have sz:r.1.size=p.size:=a1.size_eq;rw[e]
 by_cases hq:r.2.2>0
 ·rw[if_pos hq];have hl:=rev_eq tr as (p:=r.1) (a:=r.2.1-(r.2.2+1)) (n:=r.2.1) (by omega) a6;obtain⟨b1,b2,b3,b4⟩:=CW tr as (n:=r.2.1) (nrem:=nrem) (p:=kas_rev r.1 (r.2.1-(r.2.2+1)) r.2.1) (by omega) (by omega) (by unfold kas_rev;rw[mirror_size];omega) (λi j hij hj=>by rw[hl];exact a5 i j hij hj);exact⟨by omega,b2,(b3.trans (m7 _ _ _ _)).trans a1,b4⟩
 ·rw[if_neg hq];obtain⟨b1,b2,b3,b4⟩:=CW tr as (n:=r.2.1) (nrem:=nrem) (p:=r.1) (by omega) (by omega) (by omega) a5;exact⟨by omega,b2,b3.trans a1,b4⟩
theorem vN(p:Array Nat):∀f n,1<=n->evT lt (kas_asc p f n)<n+f->lt (pa' p (evT lt (kas_asc p f n))) (pa' p (evT lt (kas_asc p f n)-1))=true
 |0,n,_,h=>absurd h (gj _)
 |f+1,n,h1,h=>by
  have e:evT lt (kas_asc p (f+1) n)=evT lt (if lt (p.getD n 0) (p.getD (n-1) 0)=true then KasT.ret n else kas_asc p f (n+1)):=rfl;rw[e]at h⊢
  by_cases c:lt (p.getD n 0) (p.getD (n-1) 0)=true
  ·rw[if_pos c];exact c
  ·rw[if_neg c]at h⊢;exact vN p f (n+1) (by omega) (by omega)
theorem Lu{nrem:Nat}{p:Array Nat}(h1:1<=nrem)(hz:nrem<=p.size):
  1<=(evT lt (kas_count nrem p)).1/\(evT lt (kas_count nrem p)).1<=nrem/\(evT lt (kas_count nrem p)).2.Perm p/\STo lt (evT lt (kas_count nrem p)).2 (evT lt (kas_count nrem p)).1:=by
 have h0:STo lt p 1:=λi j hij hj=>by
  have:i=j:=by omega
  subst this;exact fE as _
 obtain⟨a,b,c⟩:=F9 tr as p (nrem-1) 1 (ak _) h0;have stop:=vN tr as p (nrem-1) 1 (ak _);have e:evT lt (kas_count nrem p)=evT lt (if(evT lt (kas_asc p (nrem-1) 1) == nrem)=true then .ret (evT lt (kas_asc p (nrem-1) 1),p) else if evT lt (kas_asc p (nrem-1) 1)>1 then .ask (p.getD 0 0) (p.getD (evT lt (kas_asc p (nrem-1) 1)-1) 0) λc=>if c=true then .ret (evT lt (kas_asc p (nrem-1) 1),p) else kas_descPart (evT lt (kas_asc p (nrem-1) 1)) nrem (kas_rev p 0 (evT lt (kas_asc p (nrem-1) 1))) else kas_descPart (evT lt (kas_asc p (nrem-1) 1)) nrem p):=by
  unfold kas_count;rw[iF]
 generalize evT lt (kas_asc p (nrem-1) 1)=n at a b c e stop;rw[e]
 by_cases hn:(n == nrem)=true
 ·rw[if_pos hn];exact⟨a,by show n<=nrem;omega,m6 _,c⟩
 ·rw[if_neg hn];have hn':n≠nrem:=by simpa using hn
  have st:=stop (by omega)
  by_cases h2:n>1
  ·rw[if_pos h2];have e2:∀k:Bool->KasT (Nat×Array Nat),evT lt (.ask (p.getD 0 0) (p.getD (n-1) 0) k)=evT lt (k (lt (p.getD 0 0) (p.getD (n-1) 0))):=λ_=>rfl;rw[e2]
   by_cases h3:lt (p.getD 0 0) (p.getD (n-1) 0)=true
   ·rw[if_pos h3];exact⟨a,by show n<=nrem;omega,m6 _,c⟩
   ·rw[if_neg h3];have h3':lt (pa' p 0) (pa' p (n-1))=false:=by simpa using h3
    have eq:∀i j,0<=i->i<n->0<=j->j<n->lt (pa' p i) (pa' p j)=false:=λi j _ hi _ hj=>by
     exact tr _ _ _ (c j (n-1) (by omega) (by omega)) (tr _ _ _ h3' (c 0 i (by omega) hi))
    have hl:=rev_eq tr as (p:=p) (a:=0) (n:=n) (by omega) eq;have g:pa' (kas_rev p 0 n) n=pa' p n:=by
     rw[fY,fY];unfold kas_rev;rw[getElem?_mirror_all (by omega),if_neg (by omega)]
    obtain⟨b1,b2,b3,b4⟩:=tT tr as (n:=n) (nrem:=nrem) (p:=kas_rev p 0 n) a (by omega) (by unfold kas_rev;rw[mirror_size];omega) (λi j hij hj=>by rw[hl];exact eq i j (by omega) (by omega) (by omega) hj) (by rw[hl];exact st);exact⟨b1,b2,b3.trans (m7 _ _ _ _),b4⟩
  ·rw[if_neg h2];have hn1:n=1:=by omega
   subst hn1;exact tT tr as (n:=1) (nrem:=nrem) (p:=p) (ak _) (by omega) hz (λi j hij hj=>by
    have:i=j:=by omega
    subst this;exact fE as _) st
theorem vO(p:Array Nat)(k:Nat)(hS:STo lt p k):∀f l r,r-l<=f->l<=r->r<=k->(∀i,i<l->lt (pa' p k) (pa' p i)=false)->(∀i,r<=i->i<k->lt (pa' p k) (pa' p i)=true)->
  l<=evT lt (kas_place p k f l r)/\evT lt (kas_place p k f l r)<=k/\(∀i,i<evT lt (kas_place p k f l r)->lt (pa' p k) (pa' p i)=false)/\(∀i,evT lt (kas_place p k f l r)<=i->i<k->lt (pa' p k) (pa' p i)=true)
 |0,l,r,hf,hl,hr,h1,h2=>by
  have:l=r:=by omega
  subst this;exact⟨ak _,hr,h1,h2⟩
 |f+1,l,r,hf,hl,hr,h1,h2=>by
  have e:evT lt (kas_place p k (f+1) l r)=evT lt (if l >= r then .ret l else .ask (p.getD k 0) (p.getD ((l+r)/2) 0) λc=>if c=true then kas_place p k f l ((l+r)/2) else kas_place p k f ((l+r)/2+1) r):=rfl;rw[e]
  by_cases hge:l >= r
  ·rw[if_pos hge];have:l=r:=by omega
   subst this;exact⟨ak _,hr,h1,h2⟩
  ·rw[if_neg hge];have e2:∀q:Bool->KasT Nat,evT lt (.ask (p.getD k 0) (p.getD ((l+r)/2) 0) q)=evT lt (q (lt (p.getD k 0) (p.getD ((l+r)/2) 0))):=λ_=>rfl;rw[e2]
   by_cases c:lt (p.getD k 0) (p.getD ((l+r)/2) 0)=true
   ·rw[if_pos c];refine vO p k hS f l ((l+r)/2) (by omega) (by omega) (by omega) h1 λi hi hk=>?_;cases q:lt (pa' p k) (pa' p i) with
    |true=>rfl
    |false=>
     have:=tr _ _ _ (hS ((l+r)/2) i hi hk) q;rw[show lt (pa' p k) (pa' p ((l+r)/2))=true from c]at this
     exact this.symm
   ·rw[if_neg c];have c':lt (pa' p k) (pa' p ((l+r)/2))=false:=by simpa using c
    obtain⟨b1,b2,b3,b4⟩:=vO p k hS f ((l+r)/2+1) r (by omega) (by omega) hr (λi hi=>by
     cases q:lt (pa' p k) (pa' p i) with
     |false=>rfl
     |true=>
      exfalso;have s1:=hS i ((l+r)/2) (by omega) (by omega);have s2:=as _ _ q;have:lt (pa' p k) (pa' p i)=false:=by
       -- p[mid]<=p[k] (c'),p[i]<=p[mid]
       exact tr _ _ _ s1 c'
      rw[q]at this;cases this) h2
    exact⟨by omega,b2,b3,b4⟩
theorem Lw:∀f (p:Array Nat) k,1<=k->k+f<=p.size->STo lt p k->(evT lt (kas_bin f p k)).Perm p/\STo lt (evT lt (kas_bin f p k)) (k+f)
 |0,p,k,_,_,h=>⟨m6 _,h⟩
 |f+1,p,k,h1,hz,h=>by
  have e:evT lt (kas_bin (f+1) p k)=evT lt (kas_bin f (bubble p k (k-evT lt (kas_place p k k 0 k))) (k+1)):=by
   show evT lt ((kas_place p k k 0 k).bind λl=>kas_bin f (bubble p k (k-l)) (k+1))=_
   rw[iF]
  obtain⟨b1,b2,b3,b4⟩:=vO tr as p k h k 0 k (by omega) (bw _) (ak _) (λi hi=>absurd hi (Nat.not_lt_zero _)) (λi hi hk=>absurd hk (by omega));generalize evT lt (kas_place p k k 0 k)=l at e b1 b2 b3 b4;have g:∀i,pa' (bubble p k (k-l)) i=if i=l then pa' p k else if l<i/\i<=k then pa' p (i-1) else pa' p i:=λi=>by
   rw[fY,fY,fY,fY,getElem?_bubble (by omega) _ (by omega)];have el:k-(k-l)=l:=by omega
   rw[el];split
   ·rfl
   ·split <;> rfl
  have hS:STo lt (bubble p k (k-l)) (k+1):=λi j hij hj=>by
   rw[g i,g j]
   by_cases hj1:j=l
   ·by_cases hi1:i=l
    ·rw[if_pos hj1,if_pos hi1];exact fE as _
    ·rw[if_pos hj1,if_neg hi1,if_neg (by omega)];exact b3 i (by omega)
   ·rw[if_neg hj1]
    by_cases hi1:i=l
    ·rw[if_pos hi1,if_pos (by omega)];exact as _ _ (b4 (j-1) (by omega) (by omega))
    ·rw[if_neg hi1]
     by_cases hj2:l<j/\j<=k
     ·rw[if_pos hj2]
      by_cases hi2:l<i/\i<=k
      ·rw[if_pos hi2];exact h _ _ (by omega) (by omega)
      ·rw[if_neg hi2];exact h _ _ (by omega) (by omega)
     ·rw[if_neg hj2,if_neg (by omega)];exact h _ _ hij (by omega)
  have ih:=Lw f (bubble p k (k-l)) (k+1) (by omega) (by rw[bubble_size];omega) hS;rw[e];exact⟨ih.1.trans (bubble_perm _ _ _),by rw[show k+(f+1)=k+1+f by omega];exact ih.2⟩
theorem Pq{n:Nat}(h1:1<=n):(evT lt (kas_sort n)).toList.Perm (av n)/\(evT lt (kas_sort n)).toList.Pairwise (λi j=>lt j i=false):=by
 have e:evT lt (kas_sort n)=evT lt (if(evT lt (kas_count n (ku (av n)))).1<n then kas_bin (n-max (evT lt (kas_count n (ku (av n)))).1 1) (evT lt (kas_count n (ku (av n)))).2 (max (evT lt (kas_count n (ku (av n)))).1 1) else .ret (evT lt (kas_count n (ku (av n)))).2):=by
  unfold kas_sort;rw[iF]
 obtain⟨a1,a2,a3,a4⟩:=Lu tr as (nrem:=n) (p:=ku (av n)) h1 (by simp);generalize evT lt (kas_count n (ku (av n)))=r at e a1 a2 a3 a4;have fin:∀p:Array Nat,p.Perm (ku (av n))->STo lt p n->p.toList.Perm (av n)/\p.toList.Pairwise (λi j=>lt j i=false):=λp hp hs=>by
  have hsz:p.size=n:=by rw[hp.size_eq];simp
  refine⟨by simpa using Array.perm_iff_toList_perm.mp hp,?_⟩
  rw[f7];intro i j hi hj hij;have hi':i<p.size:=by simpa using hi
  have hj':j<p.size:=by simpa using hj
  have:=hs i j (i4 hij) (by omega);simpa[pa',Array.getD,hi',hj'] using this
 rw[e]
 by_cases hlt:r.1<n
 ·rw[if_pos hlt];have hm:max r.1 1=r.1:=by omega
  rw[hm];obtain⟨b1,b2⟩:=Lw tr as (n-r.1) r.2 r.1 a1 (by rw[a3.size_eq];simp;omega) a4;refine fin _ (b1.trans a3) ?_;rw[show r.1+(n-r.1)=n by omega]at b2;exact b2
 ·rw[if_neg hlt];have:r.1=n:=by omega
  exact fin _ a3 (this▸a4)
end
end L2
namespace L2
open PySem PySem.Spec PyProof.Rows PySem.SeqAt PySem.W
def InP{α:Type}(n:Nat)(P:α->Prop):KasT α->Prop
 |.ret a=>P a
 |.ask i j k=>i<n/\j<n/\∀b,InP n P (k b)
theorem InP.bind{α β:Type}{n:Nat}{P:α->Prop}{Q:β->Prop}{f:α->KasT β}:∀{t:KasT α},InP n P t->(∀a,P a->InP n Q (f a))->InP n Q (t.bind f)
 |.ret a,h,hf=>hf a h
 |.ask i j k,⟨h1,h2,h3⟩,hf=>⟨h1,h2,λb=>InP.bind (h3 b) hf⟩
theorem InP.mono{α:Type}{n:Nat}{P Q:α->Prop}(hq:∀a,P a->Q a):∀{t:KasT α},InP n P t->InP n Q t
 |.ret a,h=>hq a h
 |.ask i j k,⟨h1,h2,h3⟩=>⟨h1,h2,λb=>InP.mono hq (h3 b)⟩
def AllLt(n:Nat)(p:Array Nat):Prop:=∀k,p.getD k 0<n
theorem AllLt.of{n:Nat}{p q:Array Nat}(h:AllLt n p)(g:∀k:Nat,q[k]?=none\/∃k':Nat,q[k]?=p[k']?)(hn:0<n):AllLt n q:=λk=>by
 have e:∀(r:Array Nat) k,r.getD k 0=(r[k]?).getD 0:=λr k=>by simp[Array.getD_eq_getD_getElem?]
 rw[e];rcases g k with h1|⟨k',h1⟩
 ·rw[h1];exact hn
 ·rw[h1,<-e];exact h k'
theorem AllLt.perm{n:Nat}{p q:Array Nat}(h:AllLt n p)(hp:q.Perm p)(hn:0<n):AllLt n q:=by
 refine AllLt.of h (λk=>?_) hn;cases e:q[k]? with
 |none=>exact .inl rfl
 |some v=>
  right;have hm:v∈q.toList:=by
   have:q.toList[k]?=some v:=by simpa using e
   exact cq this
  have hm':v∈p.toList:=(Array.perm_iff_toList_perm.mp hp).mem_iff.mp hm;obtain⟨k',hk⟩:=d7.mp hm';exact⟨k',by rw[<-hk];simp⟩
section
variable{n:Nat}(hn:0<n)
include hn
theorem Bj{p:Array Nat}(h:AllLt n p):∀f m,InP n (λ_=>True) (kas_asc p f m)
 |0,m=>trivial
 |f+1,m=>⟨h _,h _,λb=>by
  cases b with
  |true=>exact trivial
  |false=>exact Bj h f (m+1)⟩
theorem pF:∀f (p:Array Nat) m q,AllLt n p->InP n (λr=>AllLt n r.1) (kas_desc f p m q)
 |0,p,m,q,h=>h
 |f+1,p,m,q,h=>⟨h _,h _,λb=>by
  cases b with
  |true=>
   show InP n _ (if q>0 then kas_desc f (kas_rev p (m-(q+1)) m) (m+1) 0 else kas_desc f p (m+1) 0)
   by_cases hq:q>0
   ·rw[if_pos hq];exact pF f _ _ _ (h.perm (m7 _ _ _ _) hn)
   ·rw[if_neg hq];exact pF f _ _ _ h
  | false=>exact ⟨h _,h _,fun d=>by
    cases d with
    |true=>exact h
    |false=>exact pF f _ _ _ h⟩⟩
theorem A4{p:Array Nat}(h:AllLt n p)(m r:Nat):InP n (λx=>AllLt n x.2) (kas_tail3 m r p):=by
 unfold kas_tail3;exact InP.bind (Bj hn (h.perm (m7 _ _ _ _) hn) _ _) λa _=>h.perm (m7 _ _ _ _) hn
theorem pG{p:Array Nat}(h:AllLt n p)(m r:Nat):InP n (λx=>AllLt n x.2) (kas_descPart m r p):=by
 unfold kas_descPart;refine InP.bind (pF hn _ _ _ _ h) λa ha=>?_
 by_cases hq:a.2.2>0
 ·rw[if_pos hq];exact A4 hn (ha.perm (m7 _ _ _ _) hn) _ _
 ·rw[if_neg hq];exact A4 hn ha _ _
theorem J6{p:Array Nat}(h:AllLt n p)(r:Nat):InP n (λx=>AllLt n x.2) (kas_count r p):=by
 unfold kas_count;refine InP.bind (Bj hn h _ _) λa _=>?_
 by_cases h1:(a == r)=true
 ·rw[if_pos h1];exact h
 ·rw[if_neg h1]
  by_cases h2:a>1
  ·rw[if_pos h2];exact⟨h _,h _,λb=>by
    cases b with
    |true=>exact h
    |false=>exact pG hn (h.perm (m7 _ _ _ _) hn) _ _⟩
  ·rw[if_neg h2];exact pG hn h _ _
theorem rP{p:Array Nat}(h:AllLt n p)(k:Nat):∀f l r,InP n (λ_=>True) (kas_place p k f l r)
 |0,l,r=>trivial
 |f+1,l,r=>by
  show InP n _ (if l >= r then .ret l else .ask (p.getD k 0) (p.getD ((l+r)/2) 0) λc=>if c=true then kas_place p k f l ((l+r)/2) else kas_place p k f ((l+r)/2+1) r)
  by_cases hl:l >= r
  ·rw[if_pos hl];exact trivial
  ·rw[if_neg hl];exact⟨h _,h _,λb=>by
    cases b with
    |true=>exact rP h k f _ _
    |false=>exact rP h k f _ _⟩
theorem Hr:∀f (p:Array Nat) k,AllLt n p->InP n (λ_=>True) (kas_bin f p k)
 |0,p,k,_=>trivial
 |f+1,p,k,h=>InP.bind (rP hn h k _ _ _) λl _=>Hr f _ _ (h.perm (bubble_perm _ _ _) hn)
theorem vP:InP n (λ_=>True) (kas_sort n):=by
 have h0:AllLt n (ku (av n)):=λk=>by
  by_cases hk:k<n
  ·simp[Array.getD,hk]
  ·simp[Array.getD,hk,hn]
 unfold kas_sort;refine InP.bind (J6 hn h0 n) λr hr=>?_
 by_cases h:r.1<n
 ·rw[if_pos h];exact Hr hn _ _ _ hr
 ·rw[if_neg h];exact trivial
end
theorem vQ{α:Type}{n:Nat}{cmp:Nat->Nat->(Bool->Shared->Prop)->Shared->Prop}{lt:Nat->Nat->Bool}{s:Shared}(hc:∀i j C,i<n->j<n->C (lt i j) s->cmp i j C s){Q:α->Shared->Prop}{P:α->Prop}:
  ∀{t:KasT α},InP n P t->Q (evT lt t) s->t.kasWp cmp Q s
 |.ret _,_,h=>h
 |.ask i j k,⟨h1,h2,h3⟩,h=>hc i j _ h1 h2 (vQ hc (h3 _) h)
def ltX(n:Nat)(lt:Nat->Nat->Bool)(i j:Nat):Bool:=if i<n then(if j<n then lt i j else true) else false
theorem Tq{n:Nat}{lt:Nat->Nat->Bool}(tr:∀i j k,i<n->j<n->k<n->lt j i=false->lt k j=false->lt k i=false)(i j k:Nat)(h1:ltX n lt j i=false)(h2:ltX n lt k j=false):ltX n lt k i=false:=by
 unfold ltX at*
 by_cases hi:i<n <;> by_cases hj:j<n <;> by_cases hk:k<n <;> simp only[hi,hj,hk,if_true,if_false]at h1 h2⊢ <;> first|exact tr i j k hi hj hk h1 h2|exact absurd h2 (by decide)|exact absurd h1 (by decide)|rfl
theorem Tr{n:Nat}{lt:Nat->Nat->Bool}(as:∀i j,i<n->j<n->lt i j=true->lt j i=false)(i j:Nat)(h:ltX n lt i j=true):ltX n lt j i=false:=by
 unfold ltX at*
 by_cases hi:i<n <;> by_cases hj:j<n <;> simp only[hi,hj,if_true,if_false]at h⊢ <;> first|exact as i j hi hj h|exact absurd h (by decide)|rfl
theorem A5{α:Type}{n:Nat}{lt lt':Nat->Nat->Bool}(h:∀i j,i<n->j<n->lt i j=lt' i j){P:α->Prop}:∀{t:KasT α},InP n P t->evT lt t=evT lt' t
 |.ret _,_=>rfl
 |.ask i j k,⟨h1,h2,h3⟩=>by
  show evT lt (k (lt i j))=evT lt' (k (lt' i j))
  rw[h i j h1 h2];exact A5 h (h3 _)
theorem CY{n:Nat}{lt:Nat->Nat->Bool}(tr:∀i j k,i<n->j<n->k<n->lt j i=false->lt k j=false->lt k i=false)(as:∀i j,i<n->j<n->lt i j=true->lt j i=false)(h1:1<=n):
  (evT lt (kas_sort n)).toList.Perm (av n)/\(evT lt (kas_sort n)).toList.Pairwise (λi j=>lt j i=false):=by
 have e:evT lt (kas_sort n)=evT (ltX n lt) (kas_sort n):=A5 (λi j hi hj=>by unfold ltX;rw[if_pos hi,if_pos hj]) (vP (by omega));obtain⟨a,b⟩:=Pq (lt:=ltX n lt) (Tq tr) (Tr as) h1;rw[e];refine⟨a,b.imp_of_mem λ{i j} hi hj h=>?_⟩;have hi':i<n:=by simpa using a.mem_iff.mp hi
 have hj':j<n:=by simpa using a.mem_iff.mp hj
 unfold ltX at h;rw[if_pos hj',if_pos hi']at h;exact h
section
variable{prog:Program}{w:World}{A:Around}{E:Value->Shared->Prop}{s:Shared}
theorem uM{a:Addr}{vs:List Value}{n:Nat}{κ:SortKind}{P:PySem.Fin->Shared->Prop}(lt:Nat->Nat->Bool)(tr:∀i j k,i<vs.length->j<vs.length->k<vs.length->lt j i=false->lt k j=false->lt k i=false)(as:∀i j,i<vs.length->j<vs.length->lt i j=true->lt j i=false)
  (ho:s.heap.get? a=some (seqObj "list" vs.toArray n)) (h64:vs.length<64)
  (hk:∀s':Shared,(∀b o,b≠a->s.heap.get? b=some o->s'.heap.get? b=some o)->∀Q:SortKind->Shared->Prop,Q κ s'->wpAny (model prog w) A (keyKind' vs.toArray) Q E s')
  (hlt:∀s':Shared,(∀b o,b≠a->s.heap.get? b=some o->s'.heap.get? b=some o)->∀i j,i<vs.length->j<vs.length->∀Q:Bool->Shared->Prop,Q (lt i j) s'->wpAny (model prog w) A (keyLt' κ (vs.getD i cy) (vs.getD j cy)) Q (λ_ _=>False) s')
  (h:∀p:List Nat,p.Perm (av vs.length)->p.Pairwise (λi j=>lt j i=false)->P (.done (.ret .none)) { s with heap:=sortedHeap s.heap a vs (p.map λi=>vs.getD i cy).toArray }):
  wpAny (model prog w) A (Builtin.«list.sort» ⟨[.ref a],[]⟩) P E s:=by
 rw[list_sort_plain];have ha:a<s.heap.objs.size:=ax ho;refine aa (listItems_at ho rfl ?_);refine aa (jz ho rfl ?_ (by rw[ar,cx];omega) (bw _));obtain⟨e1,ho1⟩:∃e1,(s.heap.update a (cz λ_=>#[])).get? a=some (seqObj "list" #[] e1):=⟨_,jm ho (λ_=>#[])⟩;refine aa (seqEpoch_at ho1 rfl ?_);refine aa (wpAny_newTuple ?_ (by show vs.length<=_;rw[cx];omega));refine aa (wpAny_newList ?_ (bw _));refine c6 ?_;have ho6:(((s.heap.update a (cz λ_=>#[])).push (seqObj "tuple" vs.toArray 0)).push (seqObj "list" #[] 0)).get? a=some (seqObj "list" #[] e1):=by
  rw[ka _ _ _ (by rw[size_push',n9];exact a9 (Nat.lt_succ_of_lt ha)),ka _ _ _ (by rw[n9];exact a9 ha)];exact ho1
 have kept:∀b o,b≠a->s.heap.get? b=some o->(((s.heap.update a (cz λ_=>#[])).push (seqObj "tuple" vs.toArray 0)).push (seqObj "list" #[] 0)).get? b=some o:=λb o hb e=>
  ag _ (ag _ ((Heap.get?_update_other s.heap (cz λ_=>#[]) (k0 hb)).trans e))
 show wpAny (model prog w) A _ P E { s with heap:=((s.heap.update a (cz λ_=>#[])).push (seqObj "tuple" vs.toArray 0)).push (seqObj "list" #[] 0) }
 dsimp only;have hsz:vs.toArray.size=vs.length:=by simp
 by_cases h2:vs.toArray.size<2
 ·rw[if_pos h2,if_pos h2];refine aa (ae ?_);rw[StateT.run_pure];refine aa (ae ?_);dsimp only;refine aa (seqEpoch_at ho6 rfl ?_);refine aa (jz ho6 rfl ?_ (bw _) (hsz2:=by rw[Array.size_map];show(pairsOf vs).size<=_;rw[pairsOf_size,cx];omega));simp only[bne_self_eq_false,cm,if_false];have e:(vs.toArray.zip vs.toArray).map (·.2)=((av vs.length).map λi=>vs.getD i cy).toArray:=by
   apply Array.toList_inj.mp;apply i3;intro i
   by_cases hi:i<vs.length
   ·simp[hi]
   ·simp[hi]
  have key:=h (av vs.length) (List.Perm.refl _) (by
   rw[f7];intro i j hi hj hij;simp only[jj]at hi hj;omega)
  rw[<-e]at key;exact ae key
 ·rw[if_neg h2,if_neg h2];have h2':2<=vs.length:=by omega
  refine aa (hk _ kept _ ?_);refine aa (ix (kat_run (ks:=vs) (vs:=vs) (E:=E) (Q:=λst' s'=>s'={ s with heap:=((s.heap.update a (cz λ_=>#[])).push (seqObj "tuple" vs.toArray 0)).push (seqObj "list" #[] 0) }/\arrOf st'=(evT lt (kas_sort vs.length)).map (kas_item (vs.toArray.zip vs.toArray))/\failedOf st'=none)
   (G:=λp s'=>p=evT lt (kas_sort vs.length)/\s'={ s with heap:=((s.heap.update a (cz λ_=>#[])).push (seqObj "tuple" vs.toArray 0)).push (seqObj "list" #[] 0) }) rfl h2' h64 (λp st' s' _ a2 a3 a4=>⟨a4.2,by rw[a2,a4.1],a3⟩)
   (vQ (n:=vs.length) (lt:=lt) (λi j C hi hj hC=>hlt _ kept i j hi hj C hC) (vP (by omega)) ⟨rfl,rfl⟩)) ?_ λ_ _ e=>e)
  rintro⟨⟨⟩,st'⟩ s' ⟨rfl,har,hf⟩;dsimp only;have hout:=kat_snds (ks:=vs) (vs:=vs) rfl har;obtain⟨c1,c2⟩:=CY tr as (by omega);refine aa (seqEpoch_at ho6 rfl ?_);refine aa (jz ho6 rfl ?_ (bw _) (hsz2:=by
   have:(Array.map (λx=>x.snd) (arrOf st')).size<=aw:=by
    rw[hout,ar,af,c1.length_eq,jj,cx];omega
   first|exact this|exact kc this))
  rw[hf];simp only[bne_self_eq_false,cm,if_false];have key:=h _ c1 c2;rw[<-hout]at key;exact ae key
end
def kD:Key->D
 |.inl i=>.int i
 |.inr x=>.str x
def tD(ks:List Key):D:=.tup (ks.map kD)
theorem Pr{K:ah}{H:Hp}{k:Key}{v:V}(h:Rep K H (kD k) v):v=kV k:=by
 cases k <;> exact h
theorem Pt{K:ah}{H:Hp}(k:Key):Rep K H (kD k) (kV k):=by
 cases k <;> rfl
theorem A6{K:ah}{H:Hp}:∀{ks:List Key}{vs:List V},cD K H (ks.map kD) vs->vs=ks.map kV
 |[],[],_=>rfl
 |k::ks,v::vs,⟨h,r⟩=>by rw[Pr h,A6 (ks:=ks) r];rfl
 |[],_::_,h=>h.elim
 |_::_,[],h=>h.elim
theorem A7{K:ah}{H:Hp}:∀(ks:List Key),cD K H (ks.map kD) (ks.map kV)
 |[]=>trivial
 |k::ks=>⟨Pt k,A7 ks⟩
abbrev eR(h:Heap):List Value->List (List Key)->Prop:=Paired λv ks=>∃a us,v=.ref a/\IsTup h a us.toArray/\aO (ks.map kV) us
theorem eR.kept{h h':Heap}(k:∀b o,h.get? b=some o->h'.get? b=some o):∀{vs:List Value}{kss:List (List Key)},eR h vs kss->eR h' vs kss
 |_,_,.nil=>.nil
 |_,_,.cons ⟨a,us,e,⟨o,ho,r⟩,q⟩ t=>.cons ⟨a,us,e,⟨o,k a o ho,r⟩,q⟩ (eR.kept k t)
theorem eR.get{h:Heap}:∀{vs:List Value}{kss:List (List Key)}{i:Nat},eR h vs kss->i<vs.length->∃a us,vs.getD i cy=.ref a/\IsTup h a us.toArray/\aO ((kss.getD i []).map kV) us
 |_,_,i,.nil,hi=>by simp at hi
 |_,_,0,.cons ⟨a,us,e,p,q⟩ t,hi=>⟨a,us,by simpa using e,p,by simpa using q⟩
 |_,_,i+1,.cons _ t,hi=>by
  obtain⟨a,us,e,p,q⟩:=eR.get (i:=i) t (by simpa using hi)
  exact⟨a,us,by simpa using e,p,by simpa using q⟩
theorem nY{X:Cx}{pins:List (Addr×Obj)}{σ:St}{H:Hp}{s:Shared}(I:Inv X pins σ H s):∀{kss:List (List Key)}{vs:List V}{us:List Value},cD X.K H (kss.map tD) vs->aO vs us->eR s.heap us kss
 |[],[],_,_,.nil=>.nil
 |ks::kss,v::vs,_,⟨⟨a,ws,e,q,r⟩,rs⟩,.cons rv rvs=>by
  subst e;cases rv
  obtain⟨its,r2,p,_⟩:=I.tuple q;rw[A6 r]at r2;exact .cons ⟨a,its,rfl,p,r2⟩ (nY I rs rvs)
 |[],_::_,_,h,_=>h.elim
 |_::_,[],_,h,_=>h.elim
section
variable{prog:Program}{w:World}{A:Around}{E:Value->Shared->Prop}{s:Shared}
theorem kA{b:Bool}{Q:Bool->Shared->Prop}:∀(ks ls:List Key)(us ws:List Value)(i:Nat),aO (ks.map kV) us->aO (ls.map kV) ws->shape ks=shape ls->Q (bM ks ls) s->KatLex prog w A b false Q (us.zip ws) i s
 |[],[],_,_,i,.nil,.nil,_,h=>h
 |[],_::_,_,_,_,_,_,e,_=>by cases e
 |_::_,[],_,_,_,_,_,e,_=>by cases e
 |x::ks,y::ls,_,_,i,.cons (b:=u) r1 t1,.cons (b:=v) r2 t2,e,h=>by
  have s1:cS x=cS y:=by simpa using congrArg List.head? e
  have s2:shape ks=shape ls:=by simpa using congrArg List.tail e
  rw[List.zip_cons_cons];unfold bM at h;cases x with
  |inl a=>
   cases y with
   |inr c=>cases s1
   |inl c=>
    obtain⟨t,rfl⟩:=r1;obtain⟨t',rfl⟩:=r2;refine kat_cons (EqAt.int_int a t c t' prog w _ _ ?_)
    by_cases ac:a=c
    ·subst ac;rw[if_pos rfl]at h;rw[beq_self_eq_true];exact kat_yes (kA ks ls _ _ (i+1) t1 t2 s2 h)
    ·rw[if_neg (λz=>ac (Sum.inl.inj z))]at h;rw[beq_eq_false_iff_ne.mpr ac];refine kat_no ?_;cases hb:(b&&i == 0) with
     |true=>exact oneLt_int h
     |false=>exact kat_one _ _ (lt_int (show PySem.W.BoolBack Q (.bool (decide (a<c))) s from h))
  |inr a=>
   cases y with
   |inl c=>cases s1
   |inr c=>
    obtain⟨t,rfl⟩:=r1;obtain⟨t',rfl⟩:=r2;refine kat_cons (EqAt.str_str a t c t' prog w _ _ ?_)
    by_cases ac:a=c
    ·subst ac;rw[if_pos rfl]at h;rw[beq_self_eq_true];exact kat_yes (kA ks ls _ _ (i+1) t1 t2 s2 h)
    ·rw[if_neg (λz=>ac (Sum.inr.inj z))]at h;rw[beq_eq_false_iff_ne.mpr ac];refine kat_no ?_;cases hb:(b&&i == 0) with
     |true=>exact oneLt_str h
     |false=>exact kat_one _ _ (lt_str (show PySem.W.BoolBack Q (.bool (decide (a.cps.toList<c.cps.toList))) s from h))
theorem vR{b:Bool}{x y:Addr}{us ws:List Value}{ks ls:List Key}{Q:Bool->Shared->Prop}(hx:IsTup s.heap x us.toArray)(hy:IsTup s.heap y ws.toArray)(r1:aO (ks.map kV) us)(r2:aO (ls.map kV) ws)(e:shape ks=shape ls)(h:Q (bM ks ls) s):
  wpAny (model prog w) A (keyLt' (tuples' b) (.ref x) (.ref y)) Q E s:=by
 obtain⟨ox,hox,_,n,dx⟩:=hx;obtain⟨oy,hoy,_,m,dy⟩:=hy;refine kat_lt hox dx hoy dy ?_;have l1:=r1.length;have l2:=r2.length;have l3:ks.length=ls.length:=by simpa using congrArg List.length e
 rw[af]at l1 l2;have hf:decide (us.toArray.size<ws.toArray.size)=false:=decide_eq_false (by simp;omega);rw[hf];exact kA ks ls us ws 0 r1 r2 e h
theorem vS{h:Heap}{b:Bool}{sh:List Bool}:∀{vs:List Value}{kss:List (List Key)},eR h vs kss->(∀ks∈kss,shape ks=b::sh)->∃fs:List Value,fs.length=vs.length/\KatTups h vs fs/\∀f∈fs,typeOf f=pure (.type (if b then "int" else "str"))
 |_,_,.nil,_=>⟨[],rfl,KatTups.nil,λ_ hf=>nomatch hf⟩
 |_,_,.cons (b:=ks) ⟨a,us,e,⟨o,ho,hc,n,hd⟩,r⟩ t,hs=>by
  obtain⟨fs,hl,ht,hT⟩:=vS t λx hx=>hs x (aj _ hx);have h0:=hs ks ai;subst e;cases ks with
  |nil=>cases h0
  |cons k ks=>
   cases r with
   |cons rk rks=>
    rename_i u us';have hk:cS k=b:=by simpa using congrArg List.head? h0
    refine⟨u::fs,by simp[hl],KatTups.cons ho hc hd (by simp) ht,λf hf=>?_⟩;rcases ba.mp hf with rfl|hf
    ·cases k with
     |inl i=>obtain⟨tk,rfl⟩:=rk;subst hk;rfl
     |inr x=>obtain⟨tk,rfl⟩:=rk;subst hk;rfl
    ·exact hT f hf
theorem A8{vs:List Value}{kss:List (List Key)}{b:Bool}{sh:List Bool}{Q:SortKind->Shared->Prop}(t:eR s.heap vs kss)(hs:∀ks∈kss,shape ks=b::sh)(h0:0<vs.length)(h:Q (tuples' true) s):wpAny (model prog w) A (keyKind' vs.toArray) Q E s:=by
 obtain⟨fs,hl,ht,hT⟩:=vS t hs;refine kat_kind (T:=.type (if b then "int" else "str")) ht (by omega) (λv hv=>by rw[hT v hv];exact Looks.now) (by cases b <;> rfl) ?_;have:((Value.type (if b then "int" else "str")) != Value.type "tuple")=true:=by cases b <;> rfl
 rw[this];exact h
theorem rQ{a:Addr}{n:Nat}{P:PySem.Fin->Shared->Prop}(ho:s.heap.get? a=some (seqObj "list" ([]:List Value).toArray n))(h:P (.done (.ret .none)) { s with heap:=sortedHeap s.heap a [] #[] }):wpAny (model prog w) A (Builtin.«list.sort» ⟨[.ref a],[]⟩) P E s:=by
 rw[list_sort_plain];refine aa (listItems_at ho rfl ?_);refine aa (jz ho rfl ?_ (bw _) (bw _));have ha:a<s.heap.objs.size:=ax ho;obtain⟨e1,ho1⟩:∃e1,(s.heap.update a (cz λ_=>#[])).get? a=some (seqObj "list" #[] e1):=⟨_,jm ho (λ_=>#[])⟩;refine aa (seqEpoch_at ho1 rfl ?_);refine aa (wpAny_newTuple ?_ (bw _));refine aa (wpAny_newList ?_ (bw _));refine c6 ?_;have ho6:(((s.heap.update a (cz λ_=>#[])).push (seqObj "tuple" ([]:List Value).toArray 0)).push (seqObj "list" #[] 0)).get? a=some (seqObj "list" #[] e1):=by
  rw[ka _ _ _ (by rw[size_push',n9];exact a9 (Nat.lt_succ_of_lt ha)),ka _ _ _ (by rw[n9];exact a9 ha)];exact ho1
 show wpAny (model prog w) A _ P E { s with heap:=((s.heap.update a (cz λ_=>#[])).push (seqObj "tuple" ([]:List Value).toArray 0)).push (seqObj "list" #[] 0) }
 dsimp only;rw[if_pos (by decide),if_pos (by decide)];refine aa (ae ?_);rw[StateT.run_pure];refine aa (ae ?_);dsimp only;refine aa (seqEpoch_at ho6 rfl ?_);have e0:(Array.map (λx=>x.snd) (arrOf (SortSt.mk' general' ((#[]:Array Value).zip (#[]:Array Value)) #[] 7 none)))=(#[]:Array Value):=by
  show Array.map (λx=>x.snd) ((#[]:Array Value).zip (#[]:Array Value))=#[]
  simp
 refine aa (jz ho6 rfl ?_ (bw _) (hsz2:=by
  have e1:(Array.map (λx=>x.snd) (arrOf (SortSt.mk' general' ((#[]:Array Value).zip (#[]:Array Value)) #[] 7 none))).size=0:=by rw[e0];rfl
  first|exact df (Nat.le_of_eq e1) (bw _)|(show _<=_;omega)))
 simp only[bne_self_eq_false,cm,if_false];refine ae ?_
 show P (.done (.ret .none)) { s with heap:=(((s.heap.update a (cz λx=>#[])).push (seqObj "tuple" ([]:List Value).toArray 0)).push (seqObj "list" #[] 0)).update a (cz λx=>Array.map (λx=>x.snd) (arrOf (SortSt.mk' general' ((#[]:Array Value).zip (#[]:Array Value)) #[] 7 none))) }
 rw[e0];exact h
theorem J7{v:Value}{Q:Value->Shared->Prop}{κ:SortKind}(Col:List Value->Shared->Prop)(hc:wpAny (model prog w) A.in1 (collect v) Col E s)
  (h:∀vs s1,Col vs s1->vs.length<64/\∃lt:Nat->Nat->Bool,(∀i j k,i<vs.length->j<vs.length->k<vs.length->lt j i=false->lt k j=false->lt k i=false)/\(∀i j,i<vs.length->j<vs.length->lt i j=true->lt j i=false)/\
   (∀(A':Around)(s':Shared),(∀b o,s1.heap.get? b=some o->s'.heap.get? b=some o)->0<vs.length->∀(Q:SortKind->Shared->Prop) E',Q κ s'->wpAny (model prog w) A' (keyKind' vs.toArray) Q E' s')/\
   (∀(s':Shared),(∀b o,s1.heap.get? b=some o->s'.heap.get? b=some o)->∀i j,i<vs.length->j<vs.length->∀Q:Bool->Shared->Prop,Q (lt i j) s'->wpAny (model prog w) A.in1.in1 (keyLt' κ (vs.getD i cy) (vs.getD j cy)) Q (λ_ _=>False) s')/\
   ∀(p:List Nat)(h':Heap)(e:Nat),p.Perm (av vs.length)->p.Pairwise (λi j=>lt j i=false)->(∀b o,s1.heap.get? b=some o->h'.get? b=some o)->h'.get? s1.heap.objs.size=some (seqObj "list" (p.map λi=>vs.getD i cy).toArray e)->Q (.ref s1.heap.objs.size) { s1 with heap:=h' }):
  wpAny (model prog w) A (call (.builtin "sorted") [v]) Q E s:=by
 refine Calls.call_function_entry kind_sorted plain_sorted entry_sorted (args_sorted1 _) ?_;unfold Builtin.«sorted»;refine aa (m:=checkCount "sorted" 1 1 _) (ae ?_);refine aa (ix hc (λvs s1 c=>?_) λ_ _ x=>x);obtain⟨h64,lt,tr,as,hk,hlt,fin⟩:=h vs s1 c;refine aa (wpAny_newList ?_ (by rw[cx];omega));have hoL:(s1.heap.push (seqObj "list" vs.toArray 0)).get? s1.heap.objs.size=some (seqObj "list" vs.toArray 0):=a7 _ rfl;have keep:∀b o,s1.heap.get? b=some o->b≠s1.heap.objs.size/\(s1.heap.push (seqObj "list" vs.toArray 0)).get? b=some o:=λb o q=>⟨a9 (ax q),ag _ q⟩
 show wpAny _ _ _ _ _ { s1 with heap:=s1.heap.push (seqObj "list" vs.toArray 0) }
 refine aa (c6 (jq slot_list_sort ⟨_,hoL,rfl⟩ entry_list_sort ?_ (args_list_sort _)));have tree:wpAny (model prog w) A.in1.in1 (Builtin.«list.sort» ⟨[.ref s1.heap.objs.size],[]⟩) (λr s'=>∃p:List Nat,r=.done (.ret .none)/\p.Perm (av vs.length)/\p.Pairwise (λi j=>lt j i=false)/\s'={ s1 with heap:=sortedHeap (s1.heap.push (seqObj "list" vs.toArray 0)) s1.heap.objs.size vs (p.map λi=>vs.getD i cy).toArray }) E { s1 with heap:=s1.heap.push (seqObj "list" vs.toArray 0) }:=by
  by_cases h0:0<vs.length
  ·exact uM (κ:=κ) lt tr as hoL h64 (λs' kp Q hq=>hk _ s' (λb o e=>kp b o (keep b o e).1 (keep b o e).2) h0 Q _ hq) (λs' kp i j hi hj Q hq=>hlt s' (λb o e=>kp b o (keep b o e).1 (keep b o e).2) i j hi hj Q hq) λp a1 a2=>⟨p,rfl,a1,a2,rfl⟩
  ·have e0:vs=[]:=List.length_eq_zero_iff.mp (by omega);subst e0;exact rQ hoL ⟨[],rfl,List.Perm.refl _,o6,rfl⟩
 refine ix tree (λr s' hr=>?_) λ_ _ x=>x;obtain⟨p,rfl,a1,a2,rfl⟩:=hr;refine⟨_,rfl,ae ⟨_,rfl,?_⟩⟩;obtain⟨e,he⟩:=sortedHeap_at (h:=s1.heap.push (seqObj "list" vs.toArray 0)) (out:=(p.map λi=>vs.getD i cy).toArray) hoL;exact fin p _ e a1 a2 (λb o q=>(sortedHeap_old (keep b o q).1 (by rw[size_push'];exact Nat.lt_succ_of_lt (ax q))).trans (keep b o q).2) he
end
def rR(H:Hp)(ps:List (Addr×List V)):Hp:=λb=>match ps.lookup b with
 |some xs=>some (.tup xs)
 |none=>H b
theorem tU{κ:Type}{x:Addr}{k:κ}:∀{l:List (Addr×κ)},l.lookup x=some k->(x,k)∈l
 |[],h=>by simp at h
 |(n,v)::r,h=>by
  by_cases hx:x=n
  ·subst hx;simp only[cf,beq_self_eq_true]at h;cases h
   exact ai
  ·have:(x == n)=false:=by simpa using hx
   simp only[cf,this]at h;exact aj _ (tU h)
theorem pH{κ:Type}{x:Addr}:∀{l:List (Addr×κ)},(∀p∈l,p.1≠x)->l.lookup x=none
 |[],_=>rfl
 |(n,v)::r,h=>by
  have hx:(x == n)=false:=by
   have:=h (n,v) ai;simpa using λe:x=n=>this e.symm
  simp only[cf,hx];exact pH λp hp=>h p (aj _ hp)
theorem CZ{H:Hp}{ps:List (Addr×List V)}{b:Addr}(h:∀p∈ps,p.1≠b):rR H ps b=H b:=by
 unfold rR;rw[pH h]
theorem D0{H:Hp}:∀{ps:List (Addr×List V)}{j:Nat}{a:Addr}{xs:List V},(ps.map (·.1)).Nodup->ps[j]?=some (a,xs)->rR H ps a=some (.tup xs)
 |[],_,_,_,_,h=>by simp at h
 |(n,v)::r,0,a,xs,_,h=>by
  simp at h;obtain⟨rfl,rfl⟩:=h;unfold rR;simp[cf]
 |(n,v)::r,j+1,a,xs,nd,h=>by
  have nd':(n::r.map (·.1)).Nodup:=nd;obtain⟨n1,n2⟩:=gz.mp nd';have h':r[j]?=some (a,xs):=by simpa using h
  have ne:(a == n)=false:=by
   have:a∈r.map (·.1):=aq.mpr ⟨_,cq h',rfl⟩;simpa using λe:a=n=>n1 (e▸this)
  have ih:=D0 (H:=H) n2 h';unfold rR at ih⊢;simp only[cf,ne];exact ih
section
variable{X:Cx}{pins:List (Addr×Obj)}{σ:St}{H:Hp}{s:Shared}{h':Heap}
theorem Inv.laidT{ps:List (Addr×List V)}{t':Nat}(I:Inv X pins σ H s)(k:∀b u,s.heap.get? b=some u->h'.get? b=some u)(hp:∀p∈ps,s.heap.objs.size<=p.1)(new:∀p∈ps,p.2.length<=aw/\∃its:List Value,aO p.2 its/\oX h' p.1 its.toArray):
  Inv X pins σ (rR H ps) { s with heap:=h',toks:=t' }:=by
 have nb:∀b,b<s.heap.objs.size->∀p∈ps,p.1≠b:=λb hb p hp' e=>gj _ (bj hb (e▸hp p hp'));have old:∀b,b<s.heap.objs.size->rR H ps b=H b:=λb hb=>CZ (nb b hb);refine I.un ⟨λb u q _ _ _=>k b u q,λb u q _ _ _=>⟨u.slots,k b u q⟩,λb u q n _=>(old b (ax q)).trans n,λb u q _=>⟨u,k b u q⟩,λb xs q=>(old b (I.hok.lt q)).trans q,λb u xs q=>(old b (I.hok.lt q)).trans q,λb ps' q=>⟨#[],by rw[old b (I.hok.lt q),q];simp⟩⟩ ?_;intro b u e;unfold rR at e;cases q:ps.lookup b with
 |some xs=>
  rw[q]at e;cases e
  obtain⟨z,its,r,p⟩:=new _ (tU q);exact⟨z,its,r,p⟩
 |none=>
  rw[q]at e;have hb:=I.hok.lt e;exact(I.hok b u e).stay (λc v _ q=>k c v q) (λc q=>(old c (I.hok.lt q)).trans q) λc xs q=>(old c (I.hok.lt q)).trans q
theorem J8(I:Inv X pins σ H s){ps:List (Addr×List V)}(hp:∀p∈ps,s.heap.objs.size<=p.1):Ba H (rR H ps):=λb o e=>by
 have nb:∀p∈ps,p.1≠b:=λp hp' z=>gj _ (bj (I.hok.lt e) (z▸hp p hp'));rw[CZ nb];exact e
end
def Fb(v d:Addr):HO:=.ext λh=>h.IsItemsView v d
section
variable{X:Cx}
def Lx:V->List V->Hp->VK->Prop:=λx xs H Q=>∃d kvs,x=.ref d/\xs=[]/\H d=some (.dK kvs)/\∀l,H l=none->Q (.ref l) (upd H l (Fb l d))
theorem Ly:MtR X "dict.items" Lx:=by
 intro pins s σ H x xs v us Q I rx rv h;obtain⟨d,kvs,rfl,rfl,hd,q⟩:=h;cases rx
 cases rv
 obtain⟨z,y,vs,r,D⟩:=I.hok d _ hd;refine jy PySem.F.slot_dict_items D.typeIs PySem.F.entry_dict_items (PySem.F.args_dict_items_1 _) (meets_dict_items (bL X.prog X.w) d y) ⟨⟨vs,D⟩,?_⟩;refine⟨.ref s.heap.objs.size,_,I.laid (t':=s.toks) (o:=Fb s.heap.objs.size d) (λb u e=>ag _ e) (ak _) ?_,rfl,q _ I.fresh⟩;exact⟨⟨_,a7 _ rfl,rfl,rfl⟩,⟨_,a7 _ rfl⟩,λh1 h2 ⟨o,e,p⟩ k=>⟨o,k o e,p⟩⟩
def Bk(K:ah)(kss:List (List Key))(Q:VK)(H1:Hp):Prop:=∀(l:Addr)(kss':List (List Key))(vs':List V),H1 l=none->kss'.Perm kss->kss'.Pairwise (λa b=>bM b a=false)->cD K H1 (kss'.map tD) vs'->Q (.ref l) (upd H1 l (.lst vs'))
def Ts(K:ah):List V->Hp->VK->Prop:=λxs H Q=>∃(p:Addr)(kss:List (List Key))(sh:List Bool)(b:Bool),xs=[.ref p]/\kss.length<64/\(∀ks∈kss,shape ks=b::sh)/\
 ((∃vs,SqL K H p vs/\cD K H (kss.map tD) vs/\Bk K kss Q H)\/
  (∃d kvs,H p=some (Fb p d)/\H d=some (.dK kvs)/\kvs.map (λkv=>[kV kv.1,kv.2])=kss.map (λks=>ks.map kV)/\∀H1,Ba H H1->Bk K kss Q H1))
theorem A9{α:Type}{xs:List α}{d:α}{p:List Nat}(h:p.Perm (av xs.length)):(p.map λi=>xs.getD i d).Perm xs:=by
 have e:(av xs.length).map (λi=>xs.getD i d)=xs:=by
  apply i3;intro i
  by_cases hi:i<xs.length
  ·simp[hi]
  ·simp[hi]
 have:=h.map λi=>xs.getD i d
 rwa[e]at this
theorem Aa{K:ah}{H:Hp}{ds:List D}{vs:List V}(r:cD K H ds vs):∀{p:List Nat},(∀i∈p,i<ds.length)->cD K H (p.map λi=>ds.getD i .non) (p.map λi=>vs.getD i .non)
 |[],_=>trivial
 |i::p,h=>by
  have hi:=h i ai;have g:ds[i]?=some (ds.getD i .non):=by simp[hi]
  obtain⟨v,hv,hr⟩:=r.at g;have e:vs.getD i .non=v:=by simp[ip,hv]
  refine⟨?_,Aa r λj hj=>h j (aj _ hj)⟩
  show Rep K H (ds.getD i .non) (vs.getD i .non)
  rw[e];exact hr
theorem rS{vs:List V}{us:List Value}(r:aO vs us):∀{p:List Nat},(∀i∈p,i<vs.length)->aO (p.map λi=>vs.getD i .non) (p.map λi=>us.getD i cy)
 |[],_=>.nil
 |i::p,h=>by
  have hi:=h i ai;have g:vs[i]?=some (vs.getD i .non):=by simp[hi]
  obtain⟨u,hu,hr⟩:=r.get g;have e:us.getD i cy=u:=by simp[ip,hu]
  refine .cons ?_ (rS r λj hj=>h j (aj _ hj))
  show RelV (vs.getD i .non) (us.getD i cy)
  rw[e];exact hr
theorem Bl(hc:X.calm=true)(K:ah)(hK:X.K=K):bO X (.builtin "sorted") (Ts K):=by
 subst hK;intro pins s σ H xs us Q I r h;obtain⟨p,kss,sh,b,rfl,h64,hsh,h⟩:=h;obtain⟨u,rfl,ru⟩:=vals1 r;cases ru
 have shOf:∀i,i<kss.length->shape (kss.getD i [])=b::sh:=λi hi=>by
  have:kss.getD i []=kss[i]:=by simp[hi]
  rw[this];exact hsh _ (dr hi)
 refine J7 (κ:=tuples' true) (λits s1=>∃H1 vs,Inv X pins σ H1 s1/\aO vs its/\cD X.K H1 (kss.map tD) vs/\Bk X.K kss Q H1) ?col ?fin
 case fin=>
  rintro its s1 ⟨H1,vs,I1,rv,rr,fin⟩;have l1:=rv.length;have l2:kss.length=vs.length:=by simpa using rr.length
  have hlen:its.length=kss.length:=by omega
  have tk:=nY I1 rr rv;refine⟨by omega,λi j=>bM (kss.getD i []) (kss.getD j []),λi j k hi hj hk h1 h2=>?_,λi j _ _ h=>pE h,λA' s' kp h0 Q' E' hq=>?_,λs' kp i j hi hj Q' hq=>?_,λq h' e a1 a2 kp he=>?_⟩
  ·exact mB ((shOf i (by omega)).trans (shOf j (by omega)).symm) ((shOf j (by omega)).trans (shOf k (by omega)).symm) h1 h2
  ·exact A8 (tk.kept kp) hsh h0 hq
  ·obtain⟨a,ua,e1,p1,r1⟩:=(tk.kept kp).get hi;obtain⟨c,uc,e2,p2,r2⟩:=(tk.kept kp).get hj;rw[e1,e2];exact vR p1 p2 r1 r2 ((shOf i (by omega)).trans (shOf j (by omega)).symm) hq
  ·have hin:∀i∈q,i<kss.length:=λi hi=>by
    have:=a1.mem_iff.mp hi;rw[e8]at this;omega
   rw[hlen]at a1;have rr':=Aa rr (p:=q) (λi hi=>by rw[af];exact hin i hi);have em:(q.map λi=>(kss.map tD).getD i .non)=(q.map λi=>kss.getD i []).map tD:=by
    rw[cu];apply d8;intro i hi;have:=hin i hi;simp[this]
   rw[em]at rr';refine⟨.ref s1.heap.objs.size,_,I1.laid (t':=s1.toks) (o:=.lst (q.map λi=>vs.getD i .non)) kp (ak _) ?_,rfl,fin _ _ _ I1.fresh (A9 a1) ?_ rr'⟩
   ·refine⟨?_,q.map (λi=>its.getD i cy),e,rS rv (λi hi=>by have:=hin i hi;omega),he⟩;rw[af,a1.length_eq,jj,cx];omega
   ·rw[dt];exact a2
 case col=>
  rcases h with⟨vs,hq,rr,fin⟩|⟨d,kvs,hv,hd,hk,fin⟩
  ·obtain⟨its,rv,pl,hz⟩:=I.list hq;refine collect_list pl.isList ?_ (by have:=rv.length;omega);exact⟨H,vs,I.kept (t':=s.toks) λb o e=>by
    have hlt:b<s.heap.objs.size:=ax e
    first
     |(rw[k7 _ _ _ _ (a9 hlt),ka _ _ _ (a9 hlt)];exact e)
     |exact ag _ e,rv,rr,fin⟩
  ·obtain⟨hview,_,_⟩:=I.hok p _ hv;obtain⟨z,y,vs,rkv,D⟩:=I.hok d _ hd;obtain⟨ep,D'⟩:=D.dictAt;have lkv:kvs.length=vs.length:=KV.length rkv;have lks:kvs.length=kss.length:=by simpa using congrArg List.length hk
   refine kdx_collect (A:=X.A.in1) (knd:=bL X.prog X.w) (kvs:=vs) (ep:=ep) (I.ok.hd hc) hview D' (by rw[cx];omega) λh' tk as kp hl hG=>?_
   -- the new tuples
   let ps:List (Addr×List V):=as.zip (kss.map λks=>ks.map kV);have psl:ps.map (·.1)=as:=by
    show(as.zip _).map Prod.fst=as
    rw[List.map_fst_zip];rw[af];omega
   have hpl:∀q∈ps,s.heap.objs.size<=q.1:=λq hq=>by
    have:q.1∈as:=by rw[<-psl];exact aq.mpr ⟨q,hq,rfl⟩
    exact i4 (hG.above _ this)
   have nd:(ps.map (·.1)).Nodup:=by
    rw[psl];exact hG.rise.imp λh=>a9 h
   have each:∀(j:Nat)(a:Addr),as[j]?=some a->∃ks us,kss[j]?=some ks/\ps[j]?=some (a,ks.map kV)/\aO (ks.map kV) us/\oX h' a us.toArray/\ks.length<=2:=λj a ha=>by
    obtain⟨key,kk,x,e1,e2,e3⟩:=hG.pairs j a ha;have hj:j<kss.length:=by
     have:=(ab.mp ha).1;omega
    have hjk:j<kvs.length:=by omega
    have g1:kss[j]?=some kss[j]:=by simp[hj]
    have g2:kvs[j]?=some kvs[j]:=by simp[hjk]
    have g3:(kss[j]).map kV=[kV kvs[j].1,kvs[j].2]:=by
     have:=congrArg (λl=>l[j]?) hk;simp[g1,g2]at this;exact this.symm
    -- the raw pair
    have rr:∀{kvs:List (Key×V)}{vs:List (Key×Value)}{j:Nat}{kv:Key×V}{w':Key×Value},KV kvs vs->kvs[j]?=some kv->vs[j]?=some w'->kv.1=w'.1/\RelV kv.2 w'.2:=by
     intro kvs vs j kv w' h
     induction h generalizing j with
     |nil=>intro h1;simp at h1
     |cons r t ih=>
      intro h1 h2;cases j with
      |zero=>simp at h1 h2;subst h1 h2;exact r
      |succ j=>exact ih (by simpa using h1) (by simpa using h2)
    obtain⟨q1,q2⟩:=rr rkv g2 e1;refine⟨kss[j],[key,x],g1,?_,?_,⟨_,e3,rfl,⟨0,rfl⟩,rfl⟩,?_⟩
    ·show(as.zip _)[j]?=_
     rw[List.getElem?_zip_eq_some];exact⟨ha,by simp[g1]⟩
    ·rw[g3];refine .cons ?_ (.cons q2 .nil);rw[q1];have e2':vB kk key=true:=e2;rcases bT e2' with⟨i,t,rfl,rfl⟩|⟨y,t,rfl,rfl⟩
     ·exact⟨t,rfl⟩
     ·exact⟨t,rfl⟩
    ·have:=congrArg List.length g3;simp at this;omega
   have I1:Inv X pins σ (rR H ps) { s with heap:=h',toks:=tk }:=I.laidT kp hpl λq hq=>by
    obtain⟨j,hj⟩:=d7.mp hq;have ha:as[j]?=some q.1:=by
     have:=congrArg (λl=>l[j]?) psl;simp[hj]at this;exact this.symm
    obtain⟨ks,us,_,e2,e3,e4,e5⟩:=each j q.1 ha;rw[hj]at e2;have eq2:q.2=ks.map kV:=by
     have:=bq e2;rw[this]
    refine⟨?_,us,by rw[eq2];exact e3,e4⟩;rw[eq2,af,cx];omega
   refine⟨rR H ps,as.map V.ref,I1,?_,?_,fin _ (J8 I hpl)⟩
   ·have:∀l:List Addr,aO (l.map V.ref) (l.map c3):=λl=>by
     induction l with
     |nil=>exact .nil
     |cons a l ih=>exact .cons rfl ih
    exact this as
   ·have gen:∀(l:List Addr)(ls:List (List Key)),l.length=ls.length->(∀(j:Nat) a ks,l[j]?=some a->ls[j]?=some ks->rR H ps a=some (.tup (ks.map kV)))->cD X.K (rR H ps) (ls.map tD) (l.map V.ref):=by
     intro l
     induction l with
     |nil=>
      intro ls hl _;cases ls with
      |nil=>exact trivial
      |cons _ _=>cases hl
     |cons a l ih=>
      intro ls hl hh;cases ls with
      |nil=>cases hl
      |cons ks ls=>
       refine⟨⟨a,_,rfl,SqT.of (hh 0 a ks rfl rfl),A7 ks⟩,ih ls (by simpa using hl) λj a' ks' h1 h2=>hh (j+1) a' ks' (by simpa using h1) (by simpa using h2)⟩
    refine gen as kss (by omega) λj a ks h1 h2=>?_;obtain⟨ks',us,e1,e2,_⟩:=each j a h1;rw[h2]at e1;cases e1
    exact D0 nd e2
end
end L2
namespace L2
open PySem PySem.Spec PyProof.Rows
theorem yV:typeLookup (.type "tuple") "keys" = pure none:=by rw[typeLookup_type,builtinLookup_eq_fast];kernel_rfl
theorem eT:entryFor table "dict.update.loop" = some Builtin.«dict.update.loop»:=entryFor_of_tree (by kernel_rfl)
theorem bU:plainId "dict.update.loop" = true:=by decide +kernel
theorem yW{prog:Program}{w:World}{A:Around}{E:Value->Shared->Prop}{s:Shared}{a:Addr}{o:Obj}{xs:Array Value}{k:Nat}{Q:Option Value->Shared->Prop}
  (hx:s.heap.get? a=some o) (hc:o.cls=.type "tuple") (hdat:o.data=.seq xs k) (hd:o.dict=none) (hA:A.handled=none)
  (h:∀h' tk,(∀b u,s.heap.get? b=some u->h'.get? b=some u)->Q none { s with heap:=h',toks:=tk }):wpAny (model prog w) A (getAttr? (.ref a) "keys") Q E s:=by
 obtain⟨c,dct,dat,sl⟩:=o;simp only at hc hdat hd;subst hc hdat hd;obtain⟨hp,g,d,tk,os⟩:=s;have hT:∀tk',(⟨hp,g,d,tk',os⟩:Shared).TypeIs (.ref a) "tuple" := λ_=>⟨_,hx,rfl⟩;have f1:=sub_AttributeError;have f3:=F.slot_tuple_getattribute.lookup;have f4:=F.slot_tuple_getattribute.bind (.ref a);have f5:=am_tuple_getattr_none;unfold getAttr? getAttrBy? getAttrBy
 repeat (any_goals (first|assumption|exact hT _|((with_reducible show wpAny _ _ (call (Value.builtin "tuple.__getattribute__") _ _) _ _ _);refine call_meets F.slot_tuple_getattribute (hT _) am_entry_tuple_getattribute (F.args_tuple_getattribute_2 _ _) (meets_getattribute_miss_tuple a xs k sl "keys" _ yV (by decide) (by size_fits)) ⟨hx,hA,λh' tk' e hx'=>?_⟩)|wp_step))
 obtain⟨t',u',he⟩:=hx'.there
 show wpAny _ _ (getattributeRaised _ _ _ _ _ _ _) _ _ _
 unfold getattributeRaised
 repeat (any_goals (first|assumption|wp_step))
 exact h _ _ hx'.of.keeps
section
variable{prog:Program}{w:World}{K:Type}[DecidableEq K]{knd:KeyKind prog w K}{A:Around}{R:Result->Shared->Prop}
theorem Fc{I d:Addr}{fp wr:List Addr}{n:Nat}{P:Nat->Value->Prop}{St:Nat->Heap->Prop}(W:Walks prog w A.in1 I fp wr n P St)(hd:d∉fp)(ps:List (Addr×K×Value×Value))(hn:ps.length=n)
  (hP:∀i v,P i v->∃p,ps[i]?=some p/\v=.ref p.1) (hT:∀p∈ps,p.1∉wr/\p.1≠d) (hk:∀p∈ps,knd.is p.2.1 p.2.2.1=true) (res:Value):
  ∀(m i:Nat)(s:Shared)(kvs:List (K×Value)),n-i=m->i<=n->St i s.heap->s.heap.DictOf knd d kvs->kvs.length+n<=aw+i->(∀p∈ps,IsTup s.heap p.1 #[p.2.2.1,p.2.2.2])->
  (∀h' tk,h'.DictOf knd d (merged kvs ((ps.drop i).map λp=>(p.2.1,p.2.2.2)))->(∀b o,b≠d->b∉wr->s.heap.get? b=some o->h'.get? b=some o)->R (.ok (.ret res)) { s with heap:=h',toks:=tk })->
  codeAny (model prog w) A (.builtin "dict.update.loop" ⟨[.ref d,.ref I,rawInt i,res],[]⟩) R s:=by
 have hdw:d∉wr:=λh=>hd (W.sub _ h);intro m
 induction m with
 |zero=>
  intro i s kvs hm hi hst hdt hz hit hR;have hin:i=n:=by omega
  subst hin;refine ib eT ?_;rw[fe bU _]
  show wpAny _ A.in1 (pyNext (.ref I) >>= _) _ _ s
  refine aa (W.done s _ _ hst λh' tk hk'=>?_)
  show wpAny _ A.in1 (Builtin.Dict.addKeywords d [] >>= _) _ _ _
  have hfin:=hR h' tk (by
   rw[List.drop_of_length_le (by omega)];obtain⟨o,es,ep,h1,h2⟩:=hdt;exact⟨o,es,ep,hk' d _ hdw h1,h2⟩) λb o _ hb e=>hk' b o hb e
  exact aa (ae (ae hfin))
 |succ m ih=>
  intro i s kvs hm hi hst hdt hz hit hR;have hlt:i<n:=by omega
  refine ib eT ?_;rw[fe bU _]
  show wpAny _ A.in1 (pyNext (.ref I) >>= _) _ _ s
  refine aa (W.item i s _ _ hlt hst λv h' tk hPv hst' hk'=>?_);obtain⟨p,hp,rfl⟩:=hP i v hPv;have hpm:=cq hp;obtain⟨ob,hb1,hb2,nn,hb3⟩:=hit p hpm;have hb1':=hk' _ _ (hT p hpm).1 hb1;have hTy:({ s with heap:=h',toks:=tk }:Shared).TypeIs (.ref p.1) "tuple" := ⟨ob,hb1',hb2⟩;have hdt':h'.DictOf knd d kvs:=by
   obtain⟨o,es,ep,h1,h2⟩:=hdt;exact⟨o,es,ep,hk' d _ hdw h1,h2⟩
  refine aa (c6 (aa (n5 ?_)));unfold Builtin.Dict.pairItems;refine aa (ju hTy ?_);rw[if_pos (by decide)];refine aa (lx hb1' hb3 (ae ?_))
  show wpAny _ _ (holding [p.2.2.1,p.2.2.2] (dictSet d p.2.2.1 p.2.2.2)) _ _ _
  refine c6 (wpAny_dictSet_pairs (hk p hpm) hdt' (hsz:=by omega) λh2 hd2 hs2=>?_);refine ae ⟨jd bU _,?_⟩;have st2:St (i+1) h2:=W.frame (i+1) h' h2 hst' λb hb o e=>(hs2.2 b (λz=>hd (z▸hb))).trans e;refine ih (i+1) _ (stored kvs p.2.1 p.2.2.2) (by omega) hlt st2 hd2 ?_ (λq hq=>?_) λh3 tk3 hd3 hk3=>?_
  ·have:=stored_length_le kvs p.2.1 p.2.2.2;omega
  ·obtain⟨ob',c1,c2⟩:=hit q hq;exact⟨ob',(hs2.2 _ (hT q hq).2).trans (hk' _ _ (hT q hq).1 c1),c2⟩
  ·refine hR h3 tk3 ?_ λb o hb hw e=>hk3 b o hb hw ((hs2.2 b hb).trans (hk' b o hw e));have hdr:ps.drop i=p::ps.drop (i+1):=by
    obtain⟨hl,e⟩:=ab.mp hp;rw[j6 hl,e]
   rw[hdr];exact hd3
theorem uN{E:Value->Shared->Prop}{s:Shared}{a:Addr}{o:Obj}{k:Nat}{ps:List (Addr×K×Value×Value)}{Q:Value->Shared->Prop}(hA:A.handled=none)(hx:s.heap.get? a=some o)(hc:o.cls=.type "tuple")(hdat:o.data=.seq (ps.map λp=>c3 p.1).toArray k)(hd:o.dict=none)
  (hk:∀p∈ps,knd.is p.2.1 p.2.2.1=true) (hit:∀p∈ps,IsTup s.heap p.1 #[p.2.2.1,p.2.2.2]) (hz:ps.length<=aw)
  (h:∀h' tk,h'.DictOf knd s.heap.objs.size (merged [] (ps.map λp=>(p.2.1,p.2.2.2)))->(∀b u,s.heap.get? b=some u->h'.get? b=some u)->Q (.ref s.heap.objs.size) { s with heap:=h',toks:=tk }):
  wpAny (model prog w) A (call (.type "dict") [.ref a]) Q E s:=by
 refine callType_codes (Q₁:=λobj s₁=>obj=.ref s.heap.objs.size/\s₁={ s with heap:=s.heap.push { cls:=.type "dict",data:=.dict #[] } }) F.kt_called_dict (F.kt_typeCall_dict_1 _) F.entry_dict_init (kt_code_dict_new _ ⟨rfl,rfl⟩) ?_;rintro obj s₁ ⟨rfl,rfl⟩;have hnew:(s.heap.push { cls:=.type "dict",data:=.dict #[] }).DictOf knd s.heap.objs.size []:=Heap.DictOf.new s.heap;have up:∀b u,s.heap.get? b=some u->(s.heap.push { cls:=.type "dict",data:=.dict #[] }).get? b=some u:=λb u e=>ag _ e;have hTa:({ s with heap:=s.heap.push { cls:=.type "dict",data:=.dict #[] } }:Shared).TypeIs (.ref a) "tuple" := ⟨o,up _ _ hx,hc⟩;refine⟨hnew.typeIs,F.args_dict_init_2 _ _,?_⟩;unfold Builtin.«dict.__init__»;refine aa ?_;unfold Builtin.Dict.selfAndRest;refine aa (j3 hnew.typeIs (show wpAny _ _ (pure (s.heap.objs.size,[c3 a])) _ _ _ from ae ?_))
 show wpAny _ _ (k8 "dict.__init__" s.heap.objs.size (.ref a) [] .none) _ _ _
 unfold k8;refine aa (ju hTa ?_);rw[if_pos (by decide)];refine aa (yW (up _ _ hx) hc hdat hd hA λh1 tk1 kp1=>?_);rw[if_pos (by rfl)];refine aa (j9 ?_);have ha1:IsTup h1 a (ps.map λp=>c3 p.1).toArray:=⟨o,kp1 _ _ (up _ _ hx),hc,k,hdat⟩;refine aa (wpAny_pyIter_tuple (show({ s with heap:=h1,toks:=tk1 }:Shared).heap.IsTuple a _ from ha1) (ae ⟨jd bU _,?_⟩))
 have lt0:s.heap.objs.size<h1.objs.size:=by
  have:=kp1 s.heap.objs.size _ (a7 s.heap rfl);exact ax this
 have hlt:∀b u,s.heap.get? b=some u->b<s.heap.objs.size:=λb u e=>ax e;have ha0:=hlt _ _ hx;refine Fc (knd:=knd) (fp:=[h1.objs.size,a]) (wr:=[h1.objs.size]) (n:=(ps.map λp=>c3 p.1).toArray.size) (Walks.tuple (A:=A.in1.in1) hA h1.objs.size a (a9 (kr ha0 lt0)) (ps.map λp=>c3 p.1).toArray) ?_ ps (by simp) (λi v e=>?_) (λp hp=>?_) hk .none _ 0 _ [] (Nat.sub_zero _) (bw _) ?_ ?_ (by simpa using hz) (λp hp=>?_) λh' tk dd kk=>?_
 ·intro z;rcases ba.mp z with z|z
  ·exact a9 lt0 z
  ·exact a9 ha0 (bf.mp z).symm
 ·have e':(ps.map λp=>c3 p.1)[i]?=some v:=by simpa using e
  rw[au]at e';obtain⟨p,hp,rfl⟩:=bc.mp e';exact⟨p,hp,rfl⟩
 ·obtain⟨ob,e,_⟩:=hit p hp;have h0:=hlt _ _ e;exact⟨λz=>a9 (kr h0 lt0) (bf.mp z),a9 h0⟩
 ·refine⟨⟨_,a7 _ rfl,rfl,rfl⟩,?_⟩;obtain⟨ob,e,r⟩:=ha1;exact⟨ob,ag _ e,r⟩
 ·obtain⟨oo,es,ep,e,r⟩:=hnew;exact⟨oo,es,ep,ag _ (kp1 _ _ e),r⟩
 ·obtain⟨ob,e,r⟩:=hit p hp;exact⟨ob,ag _ (kp1 _ _ (up _ _ e)),r⟩
 ·refine⟨rfl,h h' tk (by simpa using dd) λb u e=>?_⟩
  have h0:=hlt _ _ e;exact kk b u (a9 h0) (λz=>a9 (kr h0 lt0) (bf.mp z)) (ag _ (kp1 _ _ (up _ _ e)))
end
section
variable{prog:Program}{w:World}{K:Type}[DecidableEq K]{A:Around}{E:Value->Shared->Prop}{s:Shared}
theorem uO{knd:HeapKind prog w K}{d a:Addr}{xs:List (K×Addr×Value)}{k:K}{x:Value}{Q:Value->Shared->Prop}(hu:knd.room A)(hkey:knd.is s.heap k a)(hm:s.heap.DictOfH knd d xs)(hz:xs.length<=aw)
  (there:∀p,atKey xs k=some p->Q p.2 { s with toks:=s.toks+knd.draws k })
  (new:atKey xs k=none->∀h',h'.DictOfH knd d (storedH xs k a x)->gq d s.heap h'->Q x { s with heap:=h',toks:=s.toks+knd.draws k }):wpAny (model prog w) A (n6 d (.ref a) x) Q E s:=by
 obtain⟨o,es,ep,ho,hc,hd,he,his,hn⟩:=hm;unfold n6;refine c6 (aa (knd.pyHash hu hkey ?_));refine aa (wpAny_dictFind_heap (s:={ s with toks:=s.toks+knd.draws k }) hu hkey ho hd he his hn (λhno=>?_) (λj p hj=>?_))
 ·have hat:=atKey_none_of_get hno;have fresh:=not_mem_keys_of_get hno;refine aa (j9 (aa (wpAny_updateDictKeys (hz:=by have e:=size_of_entries he;omega) (s:={ s with toks:=s.toks+knd.draws k }) ho hd (ae (new hat _ ⟨_,_,ep+1,jv _ ho (Obj.isFreed_of_dict (nv hd _)),hc.mapDictKeys _,nv hd _,?_,?_,?_⟩ (dm ..))))))
  ·rw[storedH_new hat,Array.toList_push,he,c7];rfl
  ·rw[storedH_new hat];intro z hz';rcases bh.mp hz' with q|q
   ·exact knd.keeps (his z q) ho hd (dm ..)
   ·rw[bf.mp q];exact knd.keeps hkey ho hd (dm ..)
  ·rw[storedH_new hat,c7,jk];refine⟨hn,by simp,λu hu' v hv e=>fresh ?_⟩;have:v=k:=by simpa using hv
   rw[<-this,<-e];exact hu'
 ·have hat:atKey xs k=some p:=atKey_of_get hn hj;refine aa (nc (s:={ s with toks:=s.toks+knd.draws k }) ho hd ?_);rw[entry_at he j,hj];exact aa (j9 (ae (there p hat)))
theorem rT{knd:KeyKind prog w K}{d:Addr}{kvs:List (K×Value)}{k:K}{key x:Value}{Q:Value->Shared->Prop}(hkey:knd.is k key=true)(hm:s.heap.DictOf knd d kvs)(hz:kvs.length<=aw)
  (there:∀v,valueAt kvs k=some v->Q v { s with toks:=s.toks+1 })
  (new:valueAt kvs k=none->∀h',h'.DictOf knd d (stored kvs k x)->gq d s.heap h'->Q x { s with heap:=h',toks:=s.toks+1 }):wpAny (model prog w) A (n6 d key x) Q E s:=by
 have hmap:=hm.mapOf;obtain⟨o,es,ep,ho,hc,hd,hk,hp,hn⟩:=id hm;have hes:es.size<=aw:=by
  have e1:=hp.length;rw[dk]at e1;omega
 unfold n6;refine c6 (aa (knd.pyHash hkey (aa (wpAny_dictFind_of (s:={ s with toks:=s.toks+1 }) hkey ho hd hk ?_))));have hidx:(es.findIdx? λe=>knd.is k e.key)=kvs.findIdx? λkv=>decide (kv.1=k):=by rw[<-hp.findIdx k];obtain⟨l⟩:=es;simp
 cases hi:es.findIdx? λe=>knd.is k e.key with
 |some i=>
  refine aa (nc (s:={ s with toks:=s.toks+1 }) ho hd ?_);obtain⟨o',es',ep',ho',_,hd',_,hf⟩:=hmap;obtain rfl:o=o':=bq (ho.symm.trans ho');have ees:es=es':=by rw[hd]at hd';injection hd'
  subst ees;have hfk:valueAt kvs k=(es[i]?).map (·.val):=by rw[<-hf k,findBy_of_findIdx?,hi]
  have hlt:i<es.size:=(Array.findIdx?_eq_some_iff_findIdx_eq.mp hi).1;rw[j7 hlt]at hfk⊢;exact aa (j9 (ae (there _ hfk)))
 |none=>
  have fresh:k∉kvs.map (·.1):=not_mem_of_findIdx_none (hidx▸hi);have hany:¬ (kvs.any λkv=>decide (kv.1=k))=true:=by
   rw[List.any_eq_true];rintro⟨kv,q1,q2⟩;exact fresh (aq.mpr ⟨kv,q1,of_decide_eq_true q2⟩)
  have hv:valueAt kvs k=none:=by
   obtain⟨o',es',ep',ho',_,hd',_,hf⟩:=hmap;obtain rfl:o=o':=bq (ho.symm.trans ho');have ees:es=es':=by rw[hd]at hd';injection hd'
   subst ees;rw[<-hf k,findBy_of_findIdx?,hi]
  refine aa (j9 (aa (wpAny_updateDictKeys (hz:=hes) (s:={ s with toks:=s.toks+1 }) ho hd (ae (new hv _ ⟨_,_,ep+1,jv _ ho (Obj.isFreed_of_dict (nv hd _)),hc.mapDictKeys _,nv hd _,hk.push hkey _,?_,?_⟩ (dm ..))))))
  ·rw[stored,if_neg hany];have q:=hp.append hkey (knd.hash k) x;obtain⟨l⟩:=es;simpa using q
  ·rw[stored,if_neg hany,c7,jk];refine⟨hn,by simp,λu hu' v hv' e=>fresh ?_⟩;have:v=k:=by simpa using hv'
   rw[<-this,<-e];exact hu'
end
section
variable{prog:Program}{w:World}{K:Type}[DecidableEq K]
theorem jV(knd:HeapKind prog w K)(d a:Addr)(hd:(d == f6)=false)(x:Value):
  MeetsIn prog w (Builtin.«dict.setdefault» ⟨[.ref d,.ref a,x],[]⟩) (λA R s=>knd.room A.in1/\∃k xs,knd.is s.heap k a/\s.heap.DictOfH knd d xs/\xs.length<=aw/\(∀p,atKey xs k=some p->R (.ok (.ret p.2)) { s with toks:=s.toks+knd.draws k })/\
   (atKey xs k=none->∀h',h'.DictOfH knd d (storedH xs k a x)->gq d s.heap h'->R (.ok (.ret x)) { s with heap:=h',toks:=s.toks+knd.draws k })):=
 .of_wp λA R s ⟨hu,k,xs,hkey,hm,hz,r1,r2⟩=>by
  unfold Builtin.«dict.setdefault»;refine aa ?_;unfold Builtin.Dict.keyAndDefault;refine aa (j3 hm.typeIs (show wpAny _ _ (pure (d,c3 a,some x)) _ _ s from ae ?_))
  show wpAny _ _ (if(d == f6)=true then _ else(n6 d (.ref a) x >>= _)) _ _ s
  rw[if_neg (show ¬ _ from by rw[hd];decide)]
  exact aa (uO hu hkey hm hz (λp e=>ae ⟨p.2,rfl,r1 p e⟩) λe h' q1 q2=>ae ⟨x,rfl,r2 e h' q1 q2⟩)
theorem iZ(knd:KeyKind prog w K)(d:Addr)(hd:(d == f6)=false){k:K}{key:Value}(hkey:knd.is k key=true)(x:Value):
  MeetsIn prog w (Builtin.«dict.setdefault» ⟨[.ref d,key,x],[]⟩) (λA R s=>∃kvs,s.heap.DictOf knd d kvs/\kvs.length<=aw/\(∀v,valueAt kvs k=some v->R (.ok (.ret v)) { s with toks:=s.toks+1 })/\
   (valueAt kvs k=none->∀h',h'.DictOf knd d (stored kvs k x)->gq d s.heap h'->R (.ok (.ret x)) { s with heap:=h',toks:=s.toks+1 })):=
 .of_wp λA R s ⟨kvs,hm,hz,r1,r2⟩=>by
  unfold Builtin.«dict.setdefault»;refine aa ?_;unfold Builtin.Dict.keyAndDefault;refine aa (j3 hm.typeIs (show wpAny _ _ (pure (d,key,some x)) _ _ s from ae ?_))
  show wpAny _ _ (if(d == f6)=true then _ else(n6 d key x >>= _)) _ _ s
  rw[if_neg (show ¬ _ from by rw[hd];decide)]
  exact aa (rT hkey hm hz (λv e=>ae ⟨v,rfl,r1 v e⟩) λe h' q1 q2=>ae ⟨x,rfl,r2 e h' q1 q2⟩)
end
section
variable{prog:Program}{w:World}{A:Around}{E:Value->Shared->Prop}{s:Shared}{v dc it:Addr}{oc:Obj}{es:Array DictEntry}{ep:Nat}
theorem J9{Q:Value->Shared->Prop}(hv:s.heap.IsValuesView v dc)(h1:s.heap.get? dc=some oc)(h2:oc.data=.dict es ep)
  (q:Q (.ref s.heap.objs.size) { s with heap:=s.heap.push { cls:=.type "dict_valueiterator",data:=.fields #[.ref dc,.int 0 0,.int es.size 0,.int ep 0] } }):wpAny (model prog w) A (pyIter (.ref v)) Q E s:=by
 obtain⟨ov,g1,g2,g3⟩:=id hv;refine wpAny_pyIter_slot hv.typeIs F.slot_dict_values_iter (jq F.slot_dict_values_iter hv.typeIs F.entry_dict_values_iter (show wpAny _ _ (Builtin.«dict_values.__iter__» _) _ _ _ from ?_) (F.args_dict_values_iter_1 _))
 unfold Builtin.«dict_values.__iter__»;refine aa (ae (aa ?_));unfold Builtin.Dict_items.dictOf;refine aa (wpAny_field g1 g3 (x:=.ref dc) rfl (ae (aa ?_)));unfold Builtin.Dict_items.newIterator;refine aa (nc h1 h2 (aa (wpAny_dictEpoch h1 h2 ?_)));rw[show md "dict_valueiterator" = false by decide];simp only[cm,if_false];refine fm (ae ⟨_,rfl,"dict_valueiterator",_,⟨_,a7 _ rfl,rfl⟩,fw.lookup,(by simpa[rawInt] using q)⟩)
theorem Lz{i:Nat}{Q:Option Value->Shared->Prop}(hI:s.heap.IsValIter it dc i es.size ep)(h1:s.heap.get? dc=some oc)(h2:oc.data=.dict es ep)(hlt:i<es.size)
  (q:∀h',h'.IsValIter it dc (i+1) es.size ep->gq it s.heap h'->Q (some es[i].val) { s with heap:=h' }):wpAny (model prog w) A (pyNext (.ref it)) Q E s:=by
 obtain⟨oi,g1,g2,g3⟩:=id hI;unfold pyNext;refine aa (wpAny_attempt (jc (name:=jt "__next__") hI.typeIs fw (jq fw hI.typeIs F.entry_dict_valueiterator_next ?_ (F.args_dict_valueiterator_next_1 _))));refine aa (ae (aa (aa ?_)))
 first|refine aa (i9 hI.typeIs (ae ?_))|refine aa (kg hI.typeIs (ae ?_))
 refine aa (wpAny_fieldsOf g1 g3 ?_);rw[show md "dict_valueiterator" = false by decide];simp only[cm,if_false]
 show wpAny _ _ (if(c3 dc == cy)=true then _ else _) _ _ s
 rw[if_neg (show ¬ ((c3 dc == cy)=true) from cb)]
 refine aa (ae (aa (nc h1 h2 ?_)));rw[if_neg (show ¬ _ by simp)];refine aa (ae (aa (wpAny_dictEpoch h1 h2 ?_)));rw[if_neg (show ¬ _ by simp)];refine ae ?_;simp only[show ¬ ((i:Int)<0) by omega,if_false,ng,j7 hlt];refine aa ?_
 first|refine aa (i9 hI.typeIs (ae ?_))|refine aa (kg hI.typeIs (ae ?_))
 refine aa (wpAny_isOneOf_valiter hI.typeIs (show wpAny _ _ (setField (.ref it) 1 (rawInt ((i:Int)+1)) >>= _) _ _ s from aa (wpAny_setField g1 g3 (by simp) ?_)))
 have hI':(s.heap.update it (Obj.mapFields (·.setIfInBounds 1 (rawInt ((i:Int)+1))))).IsValIter it dc (i+1) es.size ep:=
  ⟨_,jv _ g1 (Obj.isFreed_of_fields (Obj.data_mapFields g3 _)),(Obj.cls_mapFields ..).trans g2,by rw[Obj.data_mapFields g3];simp[rawInt]⟩
 have ty':({ s with heap:=s.heap.update it (Obj.mapFields (·.setIfInBounds 1 (rawInt ((i:Int)+1)))) }:Shared).TypeIs (.ref it) "dict_valueiterator" := hI'.typeIs;refine aa (c6 (aa (wpAny_isOneOf_valiter ty' (aa (wpAny_isOneOf_valiter ty' ?_)))))
 show wpAny _ _ (pure es[i].val) _ _ _
 exact ae (ae ⟨_,rfl,ae (q _ hI' (dm ..))⟩)
theorem LA{i:Nat}{Q:Option Value->Shared->Prop}(hh:A.handled=none)(hI:s.heap.IsValIter it dc i es.size ep)(h1:s.heap.get? dc=some oc)(h2:oc.data=.dict es ep)(hge:es.size<=i)
  (q:∀h',Heap.ExtBut it s.heap h'->Q none { s with heap:=h' }):wpAny (model prog w) A (pyNext (.ref it)) Q E s:=by
 obtain⟨oi,g1,g2,g3⟩:=id hI;unfold pyNext;refine aa (wpAny_attempt (jc (name:=jt "__next__") hI.typeIs fw (jq fw hI.typeIs F.entry_dict_valueiterator_next ?_ (F.args_dict_valueiterator_next_1 _))));refine aa (ae (aa (aa ?_)))
 first|refine aa (i9 hI.typeIs (ae ?_))|refine aa (kg hI.typeIs (ae ?_))
 refine aa (wpAny_fieldsOf g1 g3 ?_);rw[show md "dict_valueiterator" = false by decide];simp only[cm,if_false]
 show wpAny _ _ (if(c3 dc == cy)=true then _ else _) _ _ s
 rw[if_neg (show ¬ ((c3 dc == cy)=true) from cb)]
 refine aa (ae (aa (nc h1 h2 ?_)));rw[if_neg (show ¬ _ by simp)];refine aa (ae (aa (wpAny_dictEpoch h1 h2 ?_)));rw[if_neg (show ¬ _ by simp)];refine ae ?_;simp only[show ¬ ((i:Int)<0) by omega,if_false,ng,Array.getElem?_eq_none hge];refine aa ?_
 first|refine aa (i9 hI.typeIs (ae ?_))|refine aa (kg hI.typeIs (ae ?_))
 refine(show wpAny _ _ (setField (.ref it) 0 .none >>= _) _ _ s from aa (wpAny_setField g1 g3 (by simp) ?_))
 refine(show wpAny _ _ (newExc (.type "StopIteration") [] >>= _) _ _ _ from aa ?_);simp only[newExc,newTuple]
 refine aa (fm (aa (m:=firstArgMember _ _) (k9 (a:=cy) (by first|rfl|(simp only[firstArgMember];rfl)) (fm ?_ (by size_fits)))) (by size_fits))
 simp only[raiseNew];refine aa (wpAny_handled ?_);rw[show A.in1.handled=none from hh]
 refine aa (ae (wpAny_throw ?_));refine aa (oa (T:="StopIteration") (b:=true) ⟨_,a7 _ rfl,rfl⟩ isSubtype_stop ?_);exact ae (q _ (((dm ..).extBut.push _).push _))
theorem Fd(hh:A.handled=none)(I dc:Addr)(hne:dc≠I)(oc:Obj)(es:Array DictEntry)(ep:Nat)(h2:oc.data=.dict es ep):
  Walks prog w A I [I,dc] [I] es.size (λi v=>∃e,es[i]?=some e/\v=e.val) (λi h=>h.IsValIter I dc i es.size ep/\h.get? dc=some oc) where
 sub:=λb hb=>by rw[bf.mp hb];exact ai
 frame:=λ_ _ _ st hk=>⟨let ⟨o,e,r⟩:=st.1;⟨o,hk I ai o e,r⟩,hk dc (aj _ ai) _ st.2⟩
 item:=λi s Q E hi st hQ=>Lz st.1 st.2 h2 hi λh' hit' hs'=>hQ _ h' s.toks ⟨es[i],by simp[hi],rfl⟩ ⟨hit',(hs'.2 dc hne).trans st.2⟩ λb o hb e=>(hs'.2 b λz=>hb (by rw[z];exact ai)).trans e
 done:=λs Q E st hQ=>LA hh st.1 st.2 h2 (ak _) λh' he'=>hQ h' s.toks λb o hb e=>he' b o (λz=>hb (by rw[z];exact ai)) e
 self:=λ_ _ _ _ st hQ=>wpAny_pyIter_valiter st.1 hQ
theorem LB{r:Addr}(h2:oc.data=.dict es ep):PySem.W.KdlSrc prog w "dict_values" r dc es.size (λi v=>∃e,es[i]?=some e/\v=e.val) (λh=>h.IsValuesView r dc/\h.get? dc=some oc) where
 type:=λ_ hm=>hm.1.typeIs
 there:=λ_ hm=>⟨let ⟨_,ho,_⟩:=hm.1;ax ho,ax hm.2⟩
 keep:=λ_ _ hm hk=>⟨let ⟨o,ho,x⟩:=hm.1;⟨o,hk r (.inl rfl) o ho,x⟩,hk dc (.inr rfl) _ hm.2⟩
 notList:=by decide
 notTuple:=by decide
 hint:=λ_ _ _ _ hm hq=>PySem.W.kdl_hint_values hm.1.typeIs hq
 iter:=λ_ _ hh hm=>⟨_,_,(λ_ _ hq=>J9 hm.1 hm.2 h2 hq),Fd hh _ dc (a9 (ax hm.2)) oc es ep h2,⟨⟨_,a7 _ rfl,rfl,rfl⟩,ag _ hm.2⟩⟩
theorem Bm(dc:Addr)(hd:(dc == f6)=false):MeetsIn prog w (Builtin.«dict.values» ⟨[.ref dc],[]⟩) (λ_ R s=>s.TypeIs (.ref dc) "dict" /\
   R (.ok (.ret (.ref s.heap.objs.size))) { s with heap:=s.heap.push { cls:=.type "dict_values",data:=.fields #[.ref dc] } }):=
 .of_wp λA R s ⟨hT,h⟩=>by
  refine aa ?_;unfold Builtin.Dict.noArgs;refine aa (j3 hT (show wpAny _ _ (pure dc) _ _ s from ae (show wpAny _ _ (Builtin.Dict.showsAll dc >>= _) _ _ s from ?_)))
  unfold Builtin.Dict.showsAll;rw[if_neg (show ¬ _ from by rw[hd];decide)]
  refine aa (ae (aa (fm (ae ⟨_,rfl,h⟩))))
end
structure TOk(bt:Bool)(t:je):Prop where
 dum:t.dummies=#[]
 led:bt=false->t.led=true
 ris:t.plain=true->t.place.toList.Pairwise (· < ·)
theorem Bn{t:je}(h:t.dummies=#[])(j:Nat):t.slot j≠.dummy:=by
 unfold SetTable.slot;simp only[h,show SetTable.has #[] j=false from by simp[SetTable.has]]
 split <;> simp
def rV(w:World):Bool:=w.params.followText "set-order"
section
variable{prog:Program}{w:World}{A:Around}{E:Value->Shared->Prop}{s:Shared}{a:Addr}
theorem Hs{h:Heap}{o:Obj}{es es':Array (Int×Value)}{ep:Nat}{t t':je}(ho:h.get? a=some o)(hd:o.data=.set es ep t):
  (h.update a (Obj.putSet es' t')).get? a=some { o with data:=.set es' (ep+1) t' }:=by
 obtain⟨c,d,da,sl⟩:=o;cases hd
 rw[jv _ ho (by rfl)];rfl
end
section
variable{prog:Program}{w:World}{A:Around}{E:Value->Shared->Prop}{s:Shared}{a:Addr}
theorem code_set_new(x:Value){Q₁:Value->Shared->Prop}(q:Q₁ (.ref s.heap.objs.size) { s with heap:=s.heap.push { cls:=.type "set",data:=.set #[] 0 (f9 0 0 !rV w) } }):
  codeAny (model prog w) A (.call (.builtin "set.__new__") ⟨[.type "set",x],[]⟩) (wants Q₁ E) s:=by
 refine codeAny_of_tree ?_;refine aa (k9 (F.newCall_set_1 x) (ae ⟨jd F.plain_set_new _,ib F.entry_set_new ?_⟩));rw[fe F.plain_set_new];unfold Builtin.«set.__new__»;refine aa ?_;unfold Builtin.Frozenset.newClass;refine(show wpAny _ _ (isType (.type "set") >>= _) _ _ s from aa (ae ?_))
 rw[if_neg (by decide)];refine aa (k9 sub_set_self ?_);rw[if_neg (by decide)];refine ae (aa ?_);unfold newSet setsByText;refine aa (aa (wpAny_askSetting (ae ?_)));exact fm (ae q)
end
end L2
namespace L2
open PySem PySem.Spec PyProof.Rows PySem.SeqAt PySem.W
def cL(b:Bool)(n i:Nat):Nat:=if b then n-1-i else i
def D1(b:Bool)(n:Nat)(p:List Nat):List Nat:=katRev b (p.map (cL b n))
theorem kB{α:Type}(b:Bool){l:List α}{d:α}{i:Nat}(hi:i<l.length):(katRev b l).getD i d=l.getD (cL b l.length i) d:=by
 cases b with
 |false=>rfl
 |true=>
  show l.reverse.getD i d=l.getD (l.length-1-i) d
  rw[ip,ip,List.getElem?_reverse hi]
theorem fZ{b:Bool}{n i:Nat}(h:i<n):cL b n i<n:=by
 unfold cL;split <;> omega
theorem Fe{b:Bool}{n:Nat}{p:List Nat}(h:p.Perm (av n)):(D1 b n p).Perm (av n):=by
 cases b with
 |false=>
  have e:D1 false n p=p:=by
   show p.map (λi=>cL false n i)=p
   have:(λi=>cL false n i)=id:=by funext i;rfl
   rw[this,List.map_id]
  rw[e];exact h
 |true=>
  have e:(av n).map (cL true n)=(av n).reverse:=by
   apply List.ext_getElem
   ·simp
   ·intro i h1 h2;simp[cL]
  show((p.map (cL true n)).reverse).Perm _
  refine(List.reverse_perm _).trans ((h.map _).trans ?_);rw[e];exact List.reverse_perm _
theorem Ff{b:Bool}{n:Nat}{p:List Nat}{lt:Nat->Nat->Bool}(h:p.Pairwise (λi j=>lt (cL b n j) (cL b n i)=false)):(D1 b n p).Pairwise (λi j=>(if b then lt i j else lt j i)=false):=by
 have h1:(p.map (cL b n)).Pairwise (λi j=>lt j i=false):=dt.mpr h;cases b with
 |false=>exact h1
 |true=>
  show((p.map (cL true n)).reverse).Pairwise _
  rw[List.pairwise_reverse];exact h1
theorem J'{b:Bool}{vs:List Value}{p:List Nat}(h:∀i∈p,i<vs.length):katRev b (p.map λi=>(katRev b vs).getD i cy)=(D1 b vs.length p).map λi=>vs.getD i cy:=by
 have e:(p.map λi=>(katRev b vs).getD i cy)=(p.map (cL b vs.length)).map λi=>vs.getD i cy:=by
  rw[cu];exact d8 λi hi=>kB b (h i hi)
 rw[e];unfold D1 katRev;split
 ·rw[List.map_reverse]
 ·rfl
theorem Fg{α:Type}(b:Bool)(l:List α):katRev b (katRev b l)=l:=by
 unfold katRev;split <;> simp
theorem range_getD(vs:List Value):((av vs.length).map λi=>vs.getD i cy)=vs:=by
 apply i3;intro i
 by_cases hi:i<vs.length
 ·simp[hi]
 ·simp[hi]
section
variable{prog:Program}{w:World}{A:Around}{E:Value->Shared->Prop}{s:Shared}{a kS:Addr}{b:Bool}{vs ks:List Value}
theorem S3{st:SortSt}{e e1:Nat}{out:List Value}{P:PySem.Fin->Shared->Prop}(hout:(arrOf st).map (·.2)=out.toArray)(hz:out.length<64)(hkz:ks.length<64)(hf:failedOf st=none)(hka:kS≠a)
  (gk:s.heap.get? kS=some (seqObj "list" ks.toArray e)) (ga:s.heap.get? a=some (seqObj "list" #[] e1))
  (h:∀(h':Heap)(c:Nat),(∀x o,x≠a->x≠kS->s.heap.get? x=some o->h'.get? x=some o)->h'.get? a=some (seqObj "list" (katRev b out).toArray c)->(∃o,h'.get? kS=some o)->P (.done (.ret .none)) { s with heap:=h' }):
  wpAny (model prog w) A (ksk_tail a b e1 (.ref kS) st) P E s:=by
 have w1:=dm s.heap kS (cz λ_=>(#[]:Array Value));obtain⟨ck,hck⟩:∃ck,(s.heap.update kS (cz λ_=>(#[]:Array Value))).get? kS=some (seqObj "list" #[] ck):=⟨_,jm gk λ_=>#[]⟩;have ga1:=(w1.2 a hka.symm).trans ga;have w2:=dm (s.heap.update kS (cz λ_=>(#[]:Array Value))) a (cz λ_=>(katRev b out).toArray);obtain⟨c2,hc2⟩:∃c2,((s.heap.update kS (cz λ_=>(#[]:Array Value))).update a (cz λ_=>(katRev b out).toArray)).get? a=some (seqObj "list" (katRev b out).toArray c2):=⟨_,jm ga1 λ_=>(katRev b out).toArray⟩;have hsz:(katRev b out).toArray.size=out.length:=by rw[ar,kat_len]
 unfold ksk_tail
 try dsimp only
 rw[hout,kat_outs];refine aa (jz gk rfl ?_ (by rw[ar,cx];omega) (bw _));refine aa (wpAny_letGo (aa (seqEpoch_at ga1 rfl ?_)));refine aa (jz ga1 rfl ?_ (bw _) (df (Nat.le_of_eq hsz) (by rw[cx];omega)));rw[hf];simp only[bne_self_eq_false,cm,if_false];exact ae (h _ c2 (λx o h1 h2 q=>(w2.2 x h1).trans ((w1.2 x h2).trans q)) hc2 ⟨_,(w2.2 kS hka).trans hck⟩)
theorem XH{e e1:Nat}{κ:SortKind}{P:PySem.Fin->Shared->Prop}(lt:Nat->Nat->Bool)(hl:ks.length=vs.length)(h64:vs.length<64)(hka:kS≠a)
  (tr:∀i j k,i<vs.length->j<vs.length->k<vs.length->lt j i=false->lt k j=false->lt k i=false) (as:∀i j,i<vs.length->j<vs.length->lt i j=true->lt j i=false)
  (gk:s.heap.get? kS=some (seqObj "list" ks.toArray e)) (ga:s.heap.get? a=some (seqObj "list" #[] e1))
  (hk:2<=vs.length->∀(Q:SortKind->Shared->Prop) E',Q κ s->wpAny (model prog w) A (keyKind' ks.toArray) Q E' s)
  (hlt:∀i j,i<vs.length->j<vs.length->∀Q:Bool->Shared->Prop,Q (lt i j) s->wpAny (model prog w) A (keyLt' κ (ks.getD i cy) (ks.getD j cy)) Q (λ_ _=>False) s)
  (h:∀(p:List Nat)(h':Heap)(c:Nat),p.Perm (av vs.length)->p.Pairwise (λi j=>(if b then lt i j else lt j i)=false)->(∀x o,x≠a->x≠kS->s.heap.get? x=some o->h'.get? x=some o)->
   h'.get? a=some (seqObj "list" (p.map λi=>vs.getD i cy).toArray c)->(∃o,h'.get? kS=some o)->P (.done (.ret .none)) { s with heap:=h' }):
  wpAny (model prog w) A (ksk_end a b vs.toArray e1 (.ref kS) ks.toArray) P E s:=by
 have skip:∀t:Sem PySem.Fin,wpAny (model prog w) A t P E s->wpAny (model prog w) A (if b=true then(do let _ <-rule "list.sort.reverse";t) else t) P E s:=λt ht=>by
  split
  ·exact aa (j9 ht)
  ·exact ht
 have hlr:(katRev b ks).length=(katRev b vs).length:=by rw[kat_len,kat_len,hl]
 unfold ksk_end
 try dsimp only
 refine skip _ ?_
 rw[kat_pairs b hl]
 by_cases h2:vs.toArray.size<2
 ·rw[if_pos h2,if_pos h2]
  rw[ar]at h2
  refine aa (ae ?_)
  rw[StateT.run_pure]
  refine aa (ae ?_)
  try dsimp only
  refine S3 (st:=SortSt.mk' general' ((katRev b ks).toArray.zip (katRev b vs).toArray) #[] 7 none) (out:=katRev b vs) (ks:=ks) ?_ (by rw[kat_len];exact h64) (by omega) rfl hka gk ga λh' c k1 k2 k3=>?_
  ·show((katRev b ks).toArray.zip (katRev b vs).toArray).map (·.2)=(katRev b vs).toArray
   apply Array.toList_inj.mp
   rw[Array.toList_map,ksk_zip]
   show(List.zip _ _).map Prod.snd=_
   rw[List.map_snd_zip (by rw[hlr];exact ak _)]
  ·rw[Fg]at k2
   refine h (av vs.length) h' c (List.Perm.refl _) ?_ k1 (by rw[range_getD];exact k2) k3
   rw[f7]
   intro i j hi hj hij
   simp only[jj]at hi hj
   omega
 ·rw[if_neg h2,if_neg h2]
  rw[ar]at h2
  refine aa (hk (by omega) _ _ ?_)
  have hkas:(kas_sort (katRev b vs).length).kasWp (kas_ask prog w A κ (katRev b ks)) (λp s''=>p=evT (λi j=>lt (cL b vs.length i) (cL b vs.length j)) (kas_sort vs.length)/\s''=s) s:=by
   rw[kat_len]
   refine vQ (n:=vs.length) (lt:=λi j=>lt (cL b vs.length i) (cL b vs.length j)) (λi j C hi hj hC=>?_) (vP (by omega)) ⟨rfl,rfl⟩
   show wpAny (model prog w) A (keyLt' κ ((katRev b ks).getD i cy) ((katRev b ks).getD j cy)) C (λ_ _=>False) s
   rw[kB b (by omega),kB b (by omega),hl]
   exact hlt _ _ (fZ hi) (fZ hj) C hC
  refine aa (ix (kat_run (ks:=katRev b ks) (vs:=katRev b vs) (E:=E) (Q:=λst' s'=>s'=s/\arrOf st'=(evT (λi j=>lt (cL b vs.length i) (cL b vs.length j)) (kas_sort vs.length)).map (kas_item ((katRev b ks).toArray.zip (katRev b vs).toArray))/\failedOf st'=none)
   hlr (by rw[kat_len];omega) (by rw[kat_len];exact h64) (λp st' s' _ a2 a3 a4=>⟨a4.2,by rw[a2,a4.1],a3⟩) hkas) ?_ λ_ _ x=>x)
  rintro⟨⟨⟩,st'⟩ s' ⟨rfl,har,hf⟩
  try dsimp only
  obtain⟨c1,c2⟩:=CY (n:=vs.length) (lt:=λi j=>lt (cL b vs.length i) (cL b vs.length j)) (λi j k hi hj hk=>tr _ _ _ (fZ hi) (fZ hj) (fZ hk)) (λi j hi hj=>as _ _ (fZ hi) (fZ hj)) (by omega)
  have hin:∀i∈(evT (λi j=>lt (cL b vs.length i) (cL b vs.length j)) (kas_sort vs.length)).toList,i<vs.length:=λi hi=>by simpa using c1.mem_iff.mp hi
  refine S3 (ks:=ks) (kat_snds hlr har) (by rw[af,c1.length_eq,jj];exact h64) (by omega) hf hka gk ga λh' c k1 k2 k3=>?_
  rw[J' hin]at k2
  exact h _ h' c (Fe c1) (Ff c2) k1 k2 k3
theorem Fh{f:Value}{n:Nat}{κ:SortKind}{P:PySem.Fin->Shared->Prop}(ho:s.heap.get? a=some (seqObj "list" vs.toArray n))(h64:vs.length<64)(J:Addr->Nat->List Value->Nat->Shared->Prop)
  (h0:∀(kS e1:Nat)(h':Heap),(∀x o,x≠a->s.heap.get? x=some o->h'.get? x=some o)->s.heap.objs.size<=kS->h'.get? a=some (seqObj "list" #[] e1)->h'.get? kS=some (seqObj "list" #[] 0)->J kS e1 [] 0 { s with heap:=h' })
  (hget:∀kS e1 ks e s',J kS e1 ks e s'->kS≠a/\s'.heap.get? a=some (seqObj "list" #[] e1)/\s'.heap.get? kS=some (seqObj "list" ks.toArray e))
  (turn:∀kS e1 ks e s' x,vs[ks.length]?=some x->J kS e1 ks e s'->wpAny (model prog w) A (call f [x]) (λv s''=>s''.heap.get? kS=some (seqObj "list" ks.toArray e)/\∀(h':Heap) e',gq kS s''.heap h'->h'.get? kS=some (seqObj "list" (ks++[v]).toArray e')->J kS e1 (ks++[v]) e' { s'' with heap:=h' }) (λ_ _=>False) s')
  (fin:∀kS e1 ks e s',ks.length=vs.length->J kS e1 ks e s'->∃lt:Nat->Nat->Bool,(∀i j k,i<vs.length->j<vs.length->k<vs.length->lt j i=false->lt k j=false->lt k i=false)/\(∀i j,i<vs.length->j<vs.length->lt i j=true->lt j i=false)/\
   (2<=vs.length->∀(Q:SortKind->Shared->Prop) E',Q κ s'->wpAny (model prog w) A (keyKind' ks.toArray) Q E' s')/\
   (∀i j,i<vs.length->j<vs.length->∀Q:Bool->Shared->Prop,Q (lt i j) s'->wpAny (model prog w) A (keyLt' κ (ks.getD i cy) (ks.getD j cy)) Q (λ_ _=>False) s')/\
   ∀(p:List Nat)(h':Heap)(c:Nat),p.Perm (av vs.length)->p.Pairwise (λi j=>(if b then lt i j else lt j i)=false)->(∀x o,x≠a->x≠kS->s'.heap.get? x=some o->h'.get? x=some o)->
   h'.get? a=some (seqObj "list" (p.map λi=>vs.getD i cy).toArray c)->(∃o,h'.get? kS=some o)->P (.done (.ret .none)) { s' with heap:=h' }):
  wpAny (model prog w) A (ksk_tree a f b) P E s:=by
 have ha:a<s.heap.objs.size:=ax ho;have w1:=dm s.heap a (cz λ_=>(#[]:Array Value));obtain⟨e1,ho1⟩:∃e1,(s.heap.update a (cz λ_=>(#[]:Array Value))).get? a=some (seqObj "list" #[] e1):=⟨_,jm ho λ_=>#[]⟩;unfold ksk_tree;refine aa (listItems_at ho rfl (aa (jz ho rfl ?_ (by rw[ar,cx];omega) (bw _))));refine aa (seqEpoch_at ho1 rfl (aa (wpAny_newTuple ?_ (by show vs.length<=_;rw[cx];omega))));refine aa (wpAny_newList (c6 ?_) (bw _));have hk1:((s.heap.update a (cz λ_=>(#[]:Array Value))).push (seqObj "tuple" vs.toArray 0)).objs.size=s.heap.objs.size+1:=by rw[size_push',n9]
 have J0:=h0 ((s.heap.update a (cz λ_=>(#[]:Array Value))).push (seqObj "tuple" vs.toArray 0)).objs.size e1 (((s.heap.update a (cz λ_=>(#[]:Array Value))).push (seqObj "tuple" vs.toArray 0)).push (seqObj "list" #[] 0))
  (λx o hx q=>ag _ (ag _ ((w1.2 x hx).trans q))) (by rw[hk1];exact Nat.le_succ _) (ag _ (ag _ ho1)) (a7 _ rfl)
 show wpAny (model prog w) A (ksk_rest a f b vs.toArray e1 (.ref ((s.heap.update a (cz λ_=>(#[]:Array Value))).push (seqObj "tuple" vs.toArray 0)).objs.size)) P E { s with heap:=((s.heap.update a (cz λ_=>(#[]:Array Value))).push (seqObj "tuple" vs.toArray 0)).push (seqObj "list" #[] 0) }
 generalize ((s.heap.update a (cz λ_=>(#[]:Array Value))).push (seqObj "tuple" vs.toArray 0)).objs.size=kS at J0
 revert J0
 generalize ({ s with heap:=((s.heap.update a (cz λ_=>(#[]:Array Value))).push (seqObj "tuple" vs.toArray 0)).push (seqObj "list" #[] 0) }:Shared)=s0;intro J0;unfold ksk_rest;refine aa (j9 ?_)
 first
  |rw[List.forIn_toArray]
  |(rw[<-mj];simp only[List.toList_toArray])
 refine aa (ksk_fold (λi s'=>∃ks e,ks.length=i/\J kS e1 ks e s') vs 0 s0 ⟨[],0,rfl,J0⟩ ?step ?done)
 case step=>
  rintro j x s' hx ⟨ks,e,hl,hJ⟩;have hj:j<vs.length:=(ab.mp hx).1;have hl':ks.length=j:=by omega
  refine aa (wpAny_attempt (ix (turn kS e1 ks e s' x (by rw[hl'];exact hx) hJ) (λv s'' q=>?_) λ_ _ z=>z.elim));obtain⟨gk,nxt⟩:=q
  try dsimp only
  have w2:=dm s''.heap kS (cz (·.push v));obtain⟨c2,hc2⟩:∃c2,(s''.heap.update kS (cz (·.push v))).get? kS=some (seqObj "list" (ks.toArray.push v) c2):=⟨_,jm gk (·.push v)⟩;refine aa (jz gk rfl ?_ (by rw[ar,cx];omega) (df (Nat.le_of_eq (Array.size_push ..)) (by rw[ar,cx];omega)));refine ae ⟨rfl,ks++[v],c2,by simp;omega,nxt _ c2 w2 ?_⟩;rw[hc2];simp
 case done=>
  rintro s' ⟨ks,e,hl,hJ⟩;have hl':ks.length=vs.length:=by omega
  obtain⟨hka,ga,gk⟩:=hget kS e1 ks e s' hJ;obtain⟨lt,tr,as,hk,hlt,h⟩:=fin kS e1 ks e s' hl' hJ
  try dsimp only
  refine aa (listItems_at gk rfl ?_);exact XH (κ:=κ) lt hl' h64 hka tr as gk ga hk hlt h
end
end L2
namespace L2
open PySem PySem.Spec PyProof.Rows PySem.SeqAt
inductive PV where
 |non|bl (b:Bool)|int (i:Int)|str (x:Str)|tup (xs:List PV)|ref (n:Nat)|ty (n:String)|fl (xs:List PV)
mutual
def PV.beq:PV->PV->Bool
 |.non,.non=>true
 |.bl a,.bl b=>a == b
 |.int a,.int b=>a == b
 |.str a,.str b=>a == b
 |.tup a,.tup b=>PV.beqs a b
 |.ref a,.ref b=>a == b
 |.ty a,.ty b=>a == b
 |.fl a,.fl b=>PV.beqs a b
 |_,_=>false
def PV.beqs:List PV->List PV->Bool
 |[],[]=>true
 |x::xs,y::ys=>PV.beq x y&&PV.beqs xs ys
 |_,_=>false
end
mutual
theorem PV.beq_self:∀x:PV,PV.beq x x=true
 |.non=>rfl
 |.bl a=>by simp[PV.beq]
 |.int a=>by simp[PV.beq]
 |.str a=>by simp[PV.beq]
 |.tup a=>by simp only[PV.beq];exact PV.beqs_self a
 |.ref a=>by simp[PV.beq]
 |.ty a=>by simp[PV.beq]
 |.fl a=>by simp only[PV.beq];exact PV.beqs_self a
theorem PV.beqs_self:∀x:List PV,PV.beqs x x=true
 |[]=>rfl
 |x::xs=>by simp only[PV.beqs,PV.beq_self x,PV.beqs_self xs,Bool.and_self]
end
mutual
theorem PV.beq_eq:∀{x y:PV},PV.beq x y=true->x=y
 |.non,y,h=>by cases y <;> first|rfl|(simp[PV.beq]at h)
 |.bl a,y,h=>by cases y <;> first|(simp[PV.beq]at h;rw[h])|(simp[PV.beq]at h)
 |.int a,y,h=>by cases y <;> first|(simp[PV.beq]at h;rw[h])|(simp[PV.beq]at h)
 |.str a,y,h=>by cases y <;> first|(simp[PV.beq]at h;rw[h])|(simp[PV.beq]at h)
 |.tup a,y,h=>by
  cases y with
  |tup b=>simp only[PV.beq]at h;rw[PV.beqs_eq h]
  |_=>simp[PV.beq]at h
 |.ref a,y,h=>by cases y <;> first|(simp[PV.beq]at h;rw[h])|(simp[PV.beq]at h)
 |.ty a,y,h=>by cases y <;> first|(simp[PV.beq]at h;rw[h])|(simp[PV.beq]at h)
 |.fl a,y,h=>by
  cases y with
  |fl b=>simp only[PV.beq]at h;rw[PV.beqs_eq h]
  |_=>simp[PV.beq]at h
theorem PV.beqs_eq:∀{x y:List PV},PV.beqs x y=true->x=y
 |[],y,h=>by cases y <;> first|rfl|(simp[PV.beqs]at h)
 |x::xs,y,h=>by
  cases y with
  |nil=>simp[PV.beqs]at h
  |cons y ys=>
   simp only[PV.beqs,cw]at h;rw[PV.beq_eq h.1,PV.beqs_eq h.2]
end
instance:DecidableEq PV:=λx y=>match h:PV.beq x y with
 |true=>isTrue (PV.beq_eq h)
 |false=>isFalse λe=>by rw[e,PV.beq_self]at h;cases h
def PV.ky:Nat->PV->Bool
 |_,.int _=>true
 |_,.str _=>true
 |n+1,.tup xs=>xs.all (PV.ky n)
 |_,_=>false
section
variable(w:World)
mutual
def hsh:PV->Int
 |.int i=>Sk w (.inl i)
 |.str x=>Sk w (.inr x)
 |.tup xs=>reduceHash (fb (uP xs))
 |_=>0
def uP:List PV->List Int
 |[]=>[]
 |x::xs=>hsh x::uP xs
end
end
mutual
def drw:PV->Nat
 |.tup xs=>D3 xs+1
 |_=>1
def D3:List PV->Nat
 |[]=>0
 |x::xs=>drw x+D3 xs
end
mutual
/-- the raw value is the key -/
def HR(h:Heap):PV->Value->Prop
 |.int i,v=>∃t,v=.int i t
 |.str x,v=>∃t,v=.str x t
 |.tup ps,v=>∃a its,v=.ref a/\IsTup h a its.toArray/\HRs h ps its
 |_,_=>False
def HRs(h:Heap):List PV->List Value->Prop
 |[],[]=>True
 |p::ps,v::vs=>HR h p v/\HRs h ps vs
 |[],_::_=>False
 |_::_,[]=>False
end
theorem HRs.length{h:Heap}:∀{ps:List PV}{vs:List Value},HRs h ps vs->ps.length=vs.length
 |[],[],_=>rfl
 |_::_,_::_,r=>congrArg (·+1) (HRs.length r.2)
 |[],_::_,r=>r.elim
 |_::_,[],r=>r.elim
theorem HRs.at{h:Heap}:∀{ps:List PV}{vs:List Value}{j:Nat}{p:PV},HRs h ps vs->ps[j]?=some p->∃v,vs[j]?=some v/\HR h p v
 |[],[],_,_,_,e=>by simp at e
 |q::_,v::_,0,p,r,e=>by
  have:q=p:=by simpa using e
  subst this;exact⟨v,rfl,r.1⟩
 |_::ps,_::vs,j+1,p,r,e=>by
  obtain⟨v,h1,h2⟩:=HRs.at (ps:=ps) (vs:=vs) (j:=j) (p:=p) r.2 (by simpa using e)
  exact⟨v,by simpa using h1,h2⟩
 |[],_::_,_,_,r,_=>r.elim
 |_::_,[],_,_,r,_=>r.elim
theorem Ja{h:Heap}{a:Addr}{x y:Array Value}(p:IsTup h a x)(q:IsTup h a y):x=y:=by
 obtain⟨o,ho,_,n,hd⟩:=p;obtain⟨o',ho',_,n',hd'⟩:=q;obtain rfl:o=o':=bq (ho.symm.trans ho');rw[hd]at hd';injection hd'
mutual
theorem HR.one{h:Heap}:∀{p q:PV}{v:Value},HR h p v->HR h q v->p=q
 |.int i,q,v,r,r'=>by
  obtain⟨t,rfl⟩:=r;cases q with
  |int j=>obtain⟨t',e⟩:=r';injection e with e;rw[e]
  |str j=>obtain⟨t',e⟩:=r';cases e
  |tup j=>obtain⟨_,_,e,_⟩:=r';cases e
  |_=>exact r'.elim
 |.str i,q,v,r,r'=>by
  obtain⟨t,rfl⟩:=r;cases q with
  |int j=>obtain⟨t',e⟩:=r';cases e
  |str j=>obtain⟨t',e⟩:=r';injection e with e;rw[e]
  |tup j=>obtain⟨_,_,e,_⟩:=r';cases e
  |_=>exact r'.elim
 |.tup ps,q,v,r,r'=>by
  obtain⟨a,its,rfl,p,rs⟩:=r;cases q with
  |int j=>obtain⟨t',e⟩:=r';cases e
  |str j=>obtain⟨t',e⟩:=r';cases e
  |tup qs=>
   obtain⟨b,its',e,p',rs'⟩:=r';cases e
   have:its=its':=by simpa using congrArg Array.toList (Ja p p')
   subst this;rw[HRs.one rs rs']
  |_=>exact r'.elim
 |.non,_,_,r,_=>r.elim
 |.bl _,_,_,r,_=>r.elim
 |.ref _,_,_,r,_=>r.elim
 |.ty _,_,_,r,_=>r.elim
 |.fl _,_,_,r,_=>r.elim
theorem HRs.one{h:Heap}:∀{ps qs:List PV}{vs:List Value},HRs h ps vs->HRs h qs vs->ps=qs
 |[],[],[],_,_=>rfl
 |p::ps,q::qs,v::vs,r,r'=>by rw[HR.one r.1 r'.1,HRs.one r.2 r'.2]
 |[],_::_,[],_,r=>r.elim
 |[],_,_::_,r,_=>r.elim
 |_::_,_,[],r,_=>r.elim
 |_::_,[],_::_,_,r=>r.elim
end
theorem Fi{h h':Heap}{a d:Addr}{o:Obj}{es ep}{x:Array Value}(p:IsTup h a x)(ho:h.get? d=some o)(hd:o.data=.dict es ep)(hs:gq d h h'):IsTup h' a x:=by
 obtain⟨q,hq,hc,n,hdt⟩:=p;have ne:a≠d:=by
  rintro rfl;obtain rfl:q=o:=bq (hq.symm.trans ho);rw[hd]at hdt;cases hdt
 exact⟨q,(hs.2 a ne).trans hq,hc,n,hdt⟩
mutual
theorem HR.keep{h h':Heap}(k:∀a x,IsTup h a x->IsTup h' a x):∀{p:PV}{v:Value},HR h p v->HR h' p v
 |.int i,v,r=>r
 |.str i,v,r=>r
 |.tup ps,v,⟨a,its,e,p,rs⟩=>⟨a,its,e,k _ _ p,HRs.keep k rs⟩
 |.non,_,r=>r.elim
 |.bl _,_,r=>r.elim
 |.ref _,_,r=>r.elim
 |.ty _,_,r=>r.elim
 |.fl _,_,r=>r.elim
theorem HRs.keep{h h':Heap}(k:∀a x,IsTup h a x->IsTup h' a x):∀{ps:List PV}{vs:List Value},HRs h ps vs->HRs h' ps vs
 |[],[],_=>trivial
 |_::_,_::_,r=>⟨HR.keep k r.1,HRs.keep k r.2⟩
 |[],_::_,r=>r.elim
 |_::_,[],r=>r.elim
end
section
variable{prog:Program}{w:World}
theorem D4:∀(n:Nat){A:Around}{E:Value->Shared->Prop}{s:Shared}{p:PV}{v:Value}{Q:Int->Shared->Prop},p.ky n=true->A.units+n<cLine->HR s.heap p v->Q (hsh w p) { s with toks:=s.toks+drw p }->
  wpAny (model prog w) A (pyHash v) Q E s:=by
 intro n
 induction n with
 |zero=>
  intro A E s p v Q hk hu r h;cases p with
  |int i=>obtain⟨t,rfl⟩:=r;exact wpAny_pyHash_int h
  |str i=>obtain⟨t,rfl⟩:=r;exact wpAny_pyHash_str h
  |_=>cases hk
 |succ n ih=>
  intro A E s p v Q hk hu r h;cases p with
  |int i=>obtain⟨t,rfl⟩:=r;exact wpAny_pyHash_int h
  |str i=>obtain⟨t,rfl⟩:=r;exact wpAny_pyHash_str h
  |tup ps=>
   obtain⟨a,its,rfl,⟨o,ho,hc,m,hd⟩,rs⟩:=r;have hk':∀q∈ps,q.ky n=true:=bz.mp hk;have hT:s.TypeIs (.ref a) "tuple" := ⟨o,ho,hc⟩;unfold pyHash;unfold pyHashByItsType;refine aa (wpAny_cRoomFor_or (.inr (show A.units<cLine by omega)) (aa (m5 hT nh.lookup ?_)))
   show wpAny _ _ (if((some (Value.builtin "tuple.__hash__"):Option Value) == some cy)=true then _ else _) Q E s
   rw[if_neg (show ¬ _ from by rw[beq_builtin_none];decide)]
   refine aa (m5 hT nh.lookup (show wpAny _ _ (callSpecialIfBoundUnlessNone? (.ref a) "__hash__" _ >>= _) Q E s from ?_))
   refine aa (wpAny_callSpecialIfBoundUnlessNone?_slot hT nh (jq nh hT F.entry_tuple_hash (show wpAny _ _ (nq (.ref a) >>= _) _ _ s from ?_) (F.args_tuple_hash_1 _)))
   refine aa (wpAny_tupleItemsOf ho hd (aa ?_));rw[<-mj];refine lj _ (λrest (b:Array Int) s'=>∃left,HRs s.heap left rest/\(∀q∈left,q.ky n=true)/\b.toList++uP w left=uP w ps/\s'.heap=s.heap/\s'={ s with toks:=s'.toks }/\s'.toks+D3 left=s.toks+D3 ps) _ ?turn ?stop _ _ ⟨ps,rs,hk',rfl,rfl,rfl,rfl⟩
   case turn=>
    rintro x rest b s' ⟨left,rl,kl,eb,eh,es,et⟩;cases left with
    |nil=>exact rl.elim
    |cons q left=>
     have r1:HR s'.heap q x:=by rw[eh];exact rl.1
     refine aa (ih (kl q ai) (show A.units+1+n<cLine by omega) r1 (ae ?_));refine⟨left,rl.2,λz hz=>kl z (aj _ hz),?_,eh,?_,?_⟩
     ·rw[<-eb];simp[uP]
     ·rw[es]
     ·rw[<-et]
      show s'.toks+drw q+D3 left=s'.toks+(drw q+D3 left)
      omega
   case stop=>
    rintro b s' ⟨left,rl,kl,eb,eh,es,et⟩;cases left with
    |cons q left=>exact rl.elim
    |nil=>
     have eb':b.toList=uP w ps:=by rw[<-eb];simp[uP]
     have et':s'.toks=s.toks+D3 ps:=et
     show wpAny _ _ (retInt (fb b.toList)) _ _ _
     rw[eb',es];refine wpAny_ret_mkInt ?_
     show wpAny _ _ (if(decide (-(2:Int) ^ 63<=fb (uP w ps))&&decide (fb (uP w ps)<2 ^ 63))=true then _ else _) Q E _
     have h':Q (reduceHash (fb (uP w ps))) { s with toks:=s.toks+(D3 ps+1) }:=h;unfold reduceHash at h';rw[et']
     by_cases hr:(decide (-(2:Int) ^ 63<=fb (uP w ps))&&decide (fb (uP w ps)<2 ^ 63))=true
     ·rw[if_pos hr]at h'⊢;exact ae (by simpa[Nat.add_assoc] using h')
     ·rw[if_neg hr]at h'⊢;exact aa (j9 (ae (by simpa[Nat.add_assoc] using h')))
  |_=>cases hk
theorem Tt:∀(n:Nat){A:Around}{s:Shared}{p q:PV}{v u:Value},p.ky n=true->q.ky n=true->A.units+n<cLine->HR s.heap p v->HR s.heap q u->RcAt A s v u (decide (p=q)):=by
 intro n
 induction n with
 |zero=>
  intro A s p q v u hp hq hu r r';cases p with
  |int i=>
   obtain⟨t,rfl⟩:=r;cases q with
   |int j=>obtain⟨t',rfl⟩:=r';have:=RcAt.int_int (A:=A) (s:=s) i t j t';rwa[show decide (PV.int i=PV.int j)=(i == j) by simp[m8]]
   |str j=>obtain⟨t',rfl⟩:=r';exact RcAt.int_str i t j t'
   |_=>cases hq
  |str i=>
   obtain⟨t,rfl⟩:=r;cases q with
   |int j=>obtain⟨t',rfl⟩:=r';exact RcAt.str_int i t j t'
   |str j=>obtain⟨t',rfl⟩:=r';have:=RcAt.str_str (A:=A) (s:=s) i t j t';rwa[show decide (PV.str i=PV.str j)=(i == j) by simp[m8]]
   |_=>cases hq
  |_=>cases hp
 |succ n ih=>
  intro A s p q v u hp hq hu r r';cases p with
  |int i=>
   obtain⟨t,rfl⟩:=r;cases q with
   |int j=>obtain⟨t',rfl⟩:=r';have:=RcAt.int_int (A:=A) (s:=s) i t j t';rwa[show decide (PV.int i=PV.int j)=(i == j) by simp[m8]]
   |str j=>obtain⟨t',rfl⟩:=r';exact RcAt.int_str i t j t'
   |tup js=>obtain⟨b,its,rfl,p',_⟩:=r';exact RcAt.int_tuple i t p' (by omega)
   |_=>cases hq
  |str i=>
   obtain⟨t,rfl⟩:=r;cases q with
   |int j=>obtain⟨t',rfl⟩:=r';exact RcAt.str_int i t j t'
   |str j=>obtain⟨t',rfl⟩:=r';have:=RcAt.str_str (A:=A) (s:=s) i t j t';rwa[show decide (PV.str i=PV.str j)=(i == j) by simp[m8]]
   |tup js=>obtain⟨b,its,rfl,p',_⟩:=r';exact RcAt.str_tuple i t p' (by omega)
   |_=>cases hq
  |tup ps=>
   obtain⟨a,its,rfl,ta,rs⟩:=r;cases q with
   |int j=>obtain⟨t',rfl⟩:=r';exact RcAt.tuple_int j t' ta (by omega)
   |str j=>obtain⟨t',rfl⟩:=r';exact RcAt.tuple_str j t' ta (by omega)
   |tup qs=>
    obtain⟨b,its',rfl,tb,rs'⟩:=r';have kp:∀z∈ps,z.ky n=true:=bz.mp hp;have kq:∀z∈qs,z.ky n=true:=bz.mp hq;have l1:=rs.length;have l2:=rs'.length;have key:=RcAt.tuples (A:=A) (e:=λj=>match ps[j]?,qs[j]? with|some x,some y=>decide (x=y)|_,_=>false) ta tb (by omega) (λj h1 h2=>by
     have h1':j<ps.length:=by simp at h1;omega
     have h2':j<qs.length:=by simp at h2;omega
     have g1:ps[j]?=some ps[j]:=by simp[h1']
     have g2:qs[j]?=some qs[j]:=by simp[h2']
     obtain⟨xu,hxu,hru⟩:=rs.at g1;obtain⟨yu,hyu,hru'⟩:=rs'.at g2;have e1:its.toArray[j]=xu:=by simpa using(ab.mp hxu).2
     have e2:its'.toArray[j]=yu:=by simpa using(ab.mp hyu).2
     rw[e1,e2];simp only[g1,g2];refine dY (ih (kp _ (dr h1')) (kq _ (dr h2')) (show A.units+1+n<cLine by omega) hru hru') (λev=>?_) (λf t e=>?_)
     ·subst ev;rw[HR.one hru hru'];exact decide_eq_true rfl
     ·subst e;generalize ps[j]=z at hru;cases z with
      |int i=>obtain⟨_,e⟩:=hru;cases e
      |str i=>obtain⟨_,e⟩:=hru;cases e
      |tup i=>obtain⟨_,_,e,_⟩:=hru;cases e
      |_=>exact hru.elim)
    have sz:((av (min its.toArray.size its'.toArray.size)).all (λj=>match ps[j]?,qs[j]? with|some x,some y=>decide (x=y)|_,_=>false)&&its.toArray.size == its'.toArray.size)=decide (PV.tup ps=PV.tup qs):=by
     have a1:its.toArray.size=ps.length:=by simp;omega
     have a2:its'.toArray.size=qs.length:=by simp;omega
     rw[a1,a2,i6];simp only[cw,bz,e8,beq_iff_eq,decide_eq_true_eq,PV.tup.injEq];constructor
     ·rintro⟨hall,hlen⟩;apply List.ext_getElem hlen;intro i hi hi';have:=hall i (by omega);simpa[hi,hi'] using this
     ·rintro rfl;refine⟨λx hx=>?_,rfl⟩;have:x<ps.length:=by omega
      simp[this]
    rw[<-sz];exact key
   |_=>cases hq
  |_=>cases hp
theorem HR.noflt{h:Heap}{p:PV}{v:Value}(r:HR h p v):∀f t,v≠.float f t:=λf t e=>by
 subst e;cases p with
 |int i=>obtain⟨_,e⟩:=r;cases e
 |str i=>obtain⟨_,e⟩:=r;cases e
 |tup i=>obtain⟨_,_,e,_⟩:=r;cases e
 |_=>exact r.elim
theorem LC{n:Nat}{A:Around}{s:Shared}{p q:PV}{v u:Value}(hp:p.ky n=true)(hq:q.ky n=true)(hu:A.units+n<cLine)(r:HR s.heap p v)(r':HR s.heap q u):EqAt A s v u (decide (p=q)):=
 dY (Tt n hp hq hu r r') (λev=>by subst ev;rw[HR.one r r'];exact decide_eq_true rfl) r.noflt
theorem rW:∀(n m:Nat){A:Around}{E:Value->Shared->Prop}{s:Shared}{p:PV}{v:Value}{Q:Bool->Shared->Prop},p.ky n=true->n<=m->HR s.heap p v->Q true s->wpAny (model prog w) A (eqIsQuiet m v) Q E s:=by
 intro n
 induction n with
 |zero=>
  intro m A E s p v Q hk hm r h;cases p with
  |int i=>obtain⟨t,rfl⟩:=r;rw[eqIsQuiet_byValue _ rfl];exact ae h
  |str i=>obtain⟨t,rfl⟩:=r;rw[eqIsQuiet_byValue _ rfl];exact ae h
  |_=>cases hk
 |succ n ih=>
  intro m A E s p v Q hk hm r h;cases p with
  |int i=>obtain⟨t,rfl⟩:=r;rw[eqIsQuiet_byValue _ rfl];exact ae h
  |str i=>obtain⟨t,rfl⟩:=r;rw[eqIsQuiet_byValue _ rfl];exact ae h
  |tup ps=>
   obtain⟨a,its,rfl,⟨o,ho,hc,m',hd⟩,rs⟩:=r;have hk':∀q∈ps,q.ky n=true:=bz.mp hk;have hT:s.TypeIs (.ref a) "tuple" := ⟨o,ho,hc⟩;obtain⟨m,rfl⟩:∃j,m=j+1:=⟨m-1,by omega⟩;unfold eqIsQuiet;refine aa (m5 hT F.slot_tuple_eq.lookup (show wpAny _ _ (isInstance (.ref a) (.type "tuple") >>= _) _ _ s from ?_))
   refine aa (oa hT isSubtype_tuple_tuple ?_);simp only[oq,cm,if_false];refine aa (lx ho hd (aa (show wpAny _ _ (forIn its.toArray _ _) _ _ s from ?_)));rw[<-mj]
   refine lj _ (λrest r s'=>r.1=none/\s'=s/\∃left,HRs s.heap left rest/\∀q∈left,q.ky n=true) _ ?_ ?_ _ _ ⟨rfl,rfl,ps,rs,hk'⟩
   ·rintro v rest r s' ⟨hr,rfl,left,rl,kl⟩;cases left with
    |nil=>exact rl.elim
    |cons q left=>
     refine aa (ih m (kl q ai) (by omega) rl.1 ?_);simp only[oq,cm,if_false];exact ae ⟨rfl,rfl,left,rl.2,λz hz=>kl z (aj _ hz)⟩
   ·rintro⟨r1,r2⟩ s' ⟨hr,rfl,_⟩;simp only at hr;subst hr;exact ae h
  |_=>cases hk
def kC(prog:Program)(w:World):HeapKind prog w PV where
 is:=λh p a=>p.ky 6=true/\HR h p (.ref a)
 hash:=hsh w
 draws:=drw
 room:=λA=>A.units+6<cLine
 inj:=λx y=>HR.one x.2 y.2
 keeps:=λx ho hd hs=>⟨x.1,HR.keep (λa it p=>Fi p ho hd hs) x.2⟩
 pyHash:=λhu x h=>D4 6 x.1 hu x.2 h
 eqBool:=λhu x y h=>LC x.1 y.1 hu x.2 y.2 _ _ _ _ h
 quiet:=λx h=>rW 6 8 x.1 (by omega) x.2 h
end
def dDO(w:World)(a:Addr)(ks:List (PV×Addr×V)):HO:=.ext λh=>ks.length<=aw/\(a == f6)=false/\∃xs:List (PV×Addr×Value),
 Paired (λ(p:PV×Addr×V)(q:PV×Addr×Value)=>p.1=q.1/\p.2.1=q.2.1/\RelV p.2.2 q.2.2) ks xs/\
 ∃o es ep,h.get? a=some o/\o.ExactDict/\o.data=.dict es ep/\es.toList=xs.map (λx=>(⟨hsh w x.1,.ref x.2.1,x.2.2⟩:DictEntry))/\(xs.map (·.1)).Nodup
def S4(kd:Nat)(v d:Addr):HO:=.ext λh=>match kd with
 |0=>h.IsItemsView v d
 |1=>h.IsValuesView v d
 |_=>∃o,h.get? v=some o/\o.cls=.type "dict_keys" /\ o.data=.fields #[.ref d]
end L2
namespace L2
open PySem PySem.Spec PyProof.Rows
inductive MO where
 |lst (xs:List PV)
 |dK (kvs:List (Key×PV))
 |ins (C:Str) (fs:List (Str×PV))
 |dD (kvs:List (PV×PV))
 |vw (kd d:Nat)
 |fz (o:MO)
abbrev PH:=List MO
abbrev Ev:=List (Option PV)
structure PX where
 cls:Str
 fs:List (Str×PV)
inductive Rs(α:Type) where
 |ok (a:α) (h:PH)
 |exc (x:PX) (h:PH)
 |bad
inductive Fl where
 |nx (δ:Ev) (h:PH)
 |rt (p:PV) (h:PH)
 |bk (δ:Ev) (h:PH)
 |ct (δ:Ev) (h:PH)
 |exc (x:PX) (h:PH)
 |bad
abbrev Me:=Ev->PH->Rs PV
abbrev Ms:=Ev->PH->Fl
abbrev Fn:=List PV->PH->Rs PV
def Rs.bind{α β:Type}(r:Rs α)(f:α->PH->Rs β):Rs β:=match r with
 |.ok a h=>f a h
 |.exc x h=>.exc x h
 |.bad=>.bad
@[simp]theorem Rs.bind_ok{α β:Type}(a:α)(h:PH)(f:α->PH->Rs β):(Rs.ok a h).bind f=f a h:=rfl
@[simp]theorem Rs.bind_exc{α β:Type}(x:PX)(h:PH)(f:α->PH->Rs β):(Rs.exc x h:Rs α).bind f=.exc x h:=rfl
@[simp]theorem Rs.bind_bad{α β:Type}(f:α->PH->Rs β):(Rs.bad:Rs α).bind f=.bad:=rfl
structure MC where
 K:ah
 cl:Str->Option Addr
 bs:List Str
 ex:List Addr->Hp->PX->Prop
 w:World
def SqF(K:ah)(H:Hp)(a:Addr)(xs:List V):Prop:=
 (∃o,H a=some (.frz o (.lst xs)))\/
  ∃(o:Obj)(its:Array Value)(n:Nat),K.lookup a=some o/\o.cls=.type "list" /\ o.dict=none/\o.data=.seq its n/\its.size<=aw/\aO xs its.toList
theorem SqF.sq{K:ah}{H:Hp}{a:Addr}{xs:List V}(h:SqF K H a xs):SqL K H a xs:=by
 rcases h with⟨o,h⟩|h
 ·exact .inl (.inr ⟨o,h⟩)
 ·exact .inr h
def Kp(H H':Hp):Prop:=iY H H'/\∀a o u,H a=some (.frz o u)->H' a=some (.frz o u)
theorem Kp.refl(H:Hp):Kp H H:=⟨iY.refl H,λ_ _ _ h=>h⟩
theorem Kp.trans{H H1 H2:Hp}(a:Kp H H1)(b:Kp H1 H2):Kp H H2:=⟨a.1.trans b.1,λc o u h=>b.2 c o u (a.2 c o u h)⟩
theorem Kp.same{H H':Hp}(s:Ba H H'):Kp H H':=⟨iY.same s,λ_ _ _ h=>s _ _ h⟩
theorem Kp.new{H:Hp}{a:Addr}{o:HO}(h:H a=none):Kp H (upd H a o):=Kp.same (Ba.upd h)
theorem Kp.upd{H:Hp}{p:Addr}{o:HO}(h:CU (H p)):Kp H (upd H p o):=⟨iY.upd h,λa ob u q=>by
 have ne:a≠p:=by
  rintro rfl;rw[q]at h;exact h
 rw[bG ne];exact q⟩
theorem Kp.lst{H:Hp}{p:Addr}{o:HO}{xs:List V}(h:H p=some (.lst xs)):Kp H (L2.upd H p o):=Kp.upd (by rw[h];trivial)
theorem Kp.dK{H:Hp}{p:Addr}{o:HO}{xs:List (Key×V)}(h:H p=some (.dK xs)):Kp H (L2.upd H p o):=Kp.upd (by rw[h];trivial)
theorem Kp.sq{K:ah}{H H':Hp}{a:Addr}{xs:List V}(t:Kp H H')(h:SqT K H a xs):SqT K H' a xs:=t.1.sq h
theorem Kp.sf{K:ah}{H H':Hp}{a:Addr}{xs:List V}(t:Kp H H')(h:SqF K H a xs):SqF K H' a xs:=by
 rcases h with⟨o,h⟩|h
 ·exact .inl ⟨o,t.2 _ _ _ h⟩
 ·exact .inr h
section
variable(C:MC)(φ:List Addr)(H:Hp)
mutual
def RV:PV->V->Prop
 |.non,v=>v=.non
 |.bl b,v=>v=.bl b
 |.int i,v=>v=.int i
 |.str x,v=>v=.str x
 |.ty n,v=>v=.ty n
 |.tup ps,v=>∃a vs,v=.ref a/\SqT C.K H a vs/\RVs ps vs
 |.ref n,v=>∃a,v=.ref a/\φ[n]?=some a
 |.fl ps,v=>∃a vs,v=.ref a/\SqF C.K H a vs/\RVs ps vs
def RVs:List PV->List V->Prop
 |[],[]=>True
 |p::ps,v::vs=>RV p v/\RVs ps vs
 |[],_::_=>False
 |_::_,[]=>False
end
def RKv{κ:Type}:List (κ×PV)->List (κ×V)->Prop:=Paired λp q=>p.1=q.1/\RV C φ H p.2 q.2
def RKd:List (PV×PV)->List (PV×Addr×V)->Prop:=Paired λp q=>p.1=q.1/\p.1.ky 6=true/\RV C φ H p.1 (.ref q.2.1)/\RV C φ H p.2 q.2.2
def RO(a:Addr):MO->Prop
 |.lst ps=>∃vs,H a=some (.lst vs)/\RVs C φ H ps vs
 |.dK kvs=>∃ks,H a=some (.dK ks)/\RKv C φ H kvs ks
 |.ins n fs=>∃c dx ks,C.cl n=some c/\H a=some (.ins c dx ks)/\RKv C φ H fs ks
 |.dD kvs=>∃ks,H a=some (dDO C.w a ks)/\RKd C φ H kvs ks
 |.vw kd d=>∃b,φ[d]?=some b/\H a=some (S4 kd a b)
 |.fz (.dK kvs)=>∃ob ks,H a=some (.frz ob (.dK ks))/\RKv C φ H kvs ks
 |.fz (.dD kvs)=>∃ob ks,H a=some (.frz ob (dDO C.w a ks))/\RKd C φ H kvs ks
 |.fz _=>False
structure RH(h:PH):Prop where
 len:φ.length=h.length
 nd:φ.Nodup
 at':∀(n:Nat)(a:Addr)(o:MO),φ[n]?=some a->h[n]?=some o->RO C φ H a o
def RE(δ:Ev)(σ:St):Prop:=δ.length=σ.length/\∀(i:Nat)(p:PV),δ[i]?=some (some p)->∃v,σ[i]?=some (some v)/\RV C φ H p v
end
section
variable{C:MC}{φ φ':List Addr}{H H':Hp}
theorem gR{α:Type}{l l':List α}(p:l<+:l'){n:Nat}{a:α}(h:l[n]?=some a):l'[n]?=some a:=by
 obtain⟨t,rfl⟩:=p;have:=(ab.mp h).1;rw[d4 this];exact h
def Kq(H H':Hp):Prop:=iY H H'/\∀a o xs,H a=some (.frz o (.lst xs))->H' a=some (.frz o (.lst xs))
theorem Kp.q(t:Kp H H'):Kq H H':=⟨t.1,λa o xs h=>t.2 a o _ h⟩
theorem Kq.sq{K:ah}{a:Addr}{xs:List V}(t:Kq H H')(h:SqT K H a xs):SqT K H' a xs:=t.1.sq h
theorem Kq.sf{K:ah}{a:Addr}{xs:List V}(t:Kq H H')(h:SqF K H a xs):SqF K H' a xs:=by
 rcases h with⟨o,h⟩|h
 ·exact .inl ⟨o,t.2 _ _ _ h⟩
 ·exact .inr h
mutual
theorem RV.monoQ(p:φ<+:φ')(t:Kq H H'):∀{x:PV}{v:V},RV C φ H x v->RV C φ' H' x v
 |.non,_,h=>h
 |.bl _,_,h=>h
 |.int _,_,h=>h
 |.str _,_,h=>h
 |.ty _,_,h=>h
 |.tup _,_,⟨a,vs,e,q,r⟩=>⟨a,vs,e,t.sq q,RVs.monoQ p t r⟩
 |.ref _,_,⟨a,e,q⟩=>⟨a,e,gR p q⟩
 |.fl _,_,⟨a,vs,e,q,r⟩=>⟨a,vs,e,t.sf q,RVs.monoQ p t r⟩
theorem RVs.monoQ(p:φ<+:φ')(t:Kq H H'):∀{xs:List PV}{vs:List V},RVs C φ H xs vs->RVs C φ' H' xs vs
 |[],[],_=>trivial
 |_::_,_::_,⟨h,r⟩=>⟨RV.monoQ p t h,RVs.monoQ p t r⟩
 |[],_::_,h=>h.elim
 |_::_,[],h=>h.elim
end
theorem RV.mono(p:φ<+:φ')(t:Kp H H'){x:PV}{v:V}(h:RV C φ H x v):RV C φ' H' x v:=RV.monoQ p t.q h
theorem RVs.mono(p:φ<+:φ')(t:Kp H H'){xs:List PV}{vs:List V}(h:RVs C φ H xs vs):RVs C φ' H' xs vs:=RVs.monoQ p t.q h
theorem RVs.length:∀{xs:List PV}{vs:List V},RVs C φ H xs vs->xs.length=vs.length
 |[],[],_=>rfl
 |_::_,_::_,⟨_,r⟩=>by simp[RVs.length r]
 |[],_::_,h=>h.elim
 |_::_,[],h=>h.elim
theorem RVs.get:∀{xs:List PV}{vs:List V}{i:Nat}{v:V},RVs C φ H xs vs->vs[i]?=some v->∃x,xs[i]?=some x/\RV C φ H x v
 |[],[],_,_,_,e=>by simp at e
 |x::_,w::_,0,v,⟨h,_⟩,e=>by
  have:w=v:=by simpa using e
  subst this;exact⟨x,rfl,h⟩
 |_::xs,_::vs,i+1,v,⟨_,r⟩,e=>by
  obtain⟨x,h1,h2⟩:=RVs.get (xs:=xs) (vs:=vs) (i:=i) (v:=v) r (by simpa using e)
  exact⟨x,by simpa using h1,h2⟩
 |[],_::_,_,_,h,_=>h.elim
 |_::_,[],_,_,h,_=>h.elim
theorem RVs.at:∀{xs:List PV}{vs:List V}{i:Nat}{x:PV},RVs C φ H xs vs->xs[i]?=some x->∃v,vs[i]?=some v/\RV C φ H x v
 |[],[],_,_,_,e=>by simp at e
 |x::_,w::_,0,x',⟨h,_⟩,e=>by
  have:x=x':=by simpa using e
  subst this;exact⟨w,rfl,h⟩
 |_::xs,_::vs,i+1,x,⟨_,r⟩,e=>by
  obtain⟨v,h1,h2⟩:=RVs.at (xs:=xs) (vs:=vs) (i:=i) (x:=x) r (by simpa using e)
  exact⟨v,by simpa using h1,h2⟩
 |[],_::_,_,_,h,_=>h.elim
 |_::_,[],_,_,h,_=>h.elim
theorem RVs.append:∀{xs ys:List PV}{vs us:List V},RVs C φ H xs vs->RVs C φ H ys us->RVs C φ H (xs++ys) (vs++us)
 |[],_,[],_,_,h=>h
 |_::_,_,_::_,_,⟨h,r⟩,h'=>⟨h,RVs.append r h'⟩
 |[],_,_::_,_,h,_=>h.elim
 |_::_,_,[],_,h,_=>h.elim
theorem RVs.snoc{xs:List PV}{vs:List V}{x:PV}{v:V}(r:RVs C φ H xs vs)(h:RV C φ H x v):RVs C φ H (xs++[x]) (vs++[v]):=r.append ⟨h,trivial⟩
theorem RVs.drop:∀{xs:List PV}{vs:List V}(n:Nat),RVs C φ H xs vs->RVs C φ H (xs.drop n) (vs.drop n)
 |_,_,0,h=>h
 |[],[],_+1,_=>trivial
 |_::_,_::_,n+1,⟨_,r⟩=>RVs.drop n r
 |[],_::_,_+1,h=>h.elim
 |_::_,[],_+1,h=>h.elim
theorem RVs.take:∀{xs:List PV}{vs:List V}(n:Nat),RVs C φ H xs vs->RVs C φ H (xs.take n) (vs.take n)
 |[],[],0,_=>trivial
 |_::_,_::_,0,_=>trivial
 |[],[],_+1,_=>trivial
 |_::_,_::_,n+1,⟨h,r⟩=>⟨h,RVs.take n r⟩
 |[],_::_,_,h=>h.elim
 |_::_,[],_,h=>h.elim
theorem RVs.set{x:PV}{v:V}(h:RV C φ H x v):∀{xs:List PV}{vs:List V}(n:Nat),RVs C φ H xs vs->RVs C φ H (xs.set n x) (vs.set n v)
 |[],[],_,_=>trivial
 |_::_,_::_,0,⟨_,r⟩=>⟨h,r⟩
 |_::_,_::_,n+1,⟨q,r⟩=>⟨q,RVs.set h n r⟩
 |[],_::_,_,h=>h.elim
 |_::_,[],_,h=>h.elim
theorem RVs.reverse:∀{xs:List PV}{vs:List V},RVs C φ H xs vs->RVs C φ H xs.reverse vs.reverse
 |[],[],_=>trivial
 |_::_,_::_,⟨h,r⟩=>by simp only[List.reverse_cons];exact(RVs.reverse r).append ⟨h,trivial⟩
 |[],_::_,h=>h.elim
 |_::_,[],h=>h.elim
theorem RKv.monoQ{κ:Type}(p:φ<+:φ')(t:Kq H H'){x:List (κ×PV)}{v:List (κ×V)}(h:RKv C φ H x v):RKv C φ' H' x v:=Paired.mapP h λ_ _ q=>⟨q.1,q.2.monoQ p t⟩
theorem RKd.monoQ(p:φ<+:φ')(t:Kq H H'){x:List (PV×PV)}{v:List (PV×Addr×V)}(h:RKd C φ H x v):RKd C φ' H' x v:=Paired.mapP h λ_ _ q=>⟨q.1,q.2.1,q.2.2.1.monoQ p t,q.2.2.2.monoQ p t⟩
theorem RKv.mono{κ:Type}(p:φ<+:φ')(t:Kp H H'){x:List (κ×PV)}{v:List (κ×V)}(h:RKv C φ H x v):RKv C φ' H' x v:=Paired.mapP h λ_ _ q=>⟨q.1,q.2.mono p t⟩
theorem RKd.mono(p:φ<+:φ')(t:Kp H H'){x:List (PV×PV)}{v:List (PV×Addr×V)}(h:RKd C φ H x v):RKd C φ' H' x v:=Paired.mapP h λ_ _ q=>⟨q.1,q.2.1,q.2.2.1.mono p t,q.2.2.2.mono p t⟩
theorem RE.mono(p:φ<+:φ')(t:Kp H H'){δ:Ev}{σ:St}(h:RE C φ H δ σ):RE C φ' H' δ σ:=⟨h.1,λi x e=>let ⟨v,q,r⟩:=h.2 i x e;⟨v,q,r.mono p t⟩⟩
theorem RE.set{δ:Ev}{σ:St}{x:PV}{v:V}(h:RE C φ H δ σ)(r:RV C φ H x v)(i:Nat):RE C φ H (δ.set i (some x)) (σ.set i (some v)):=by
 refine⟨by rw[i5,i5];exact h.1,λj p e=>?_⟩
 by_cases hj:i=j
 ·subst hj
  by_cases hl:i<δ.length
  ·rw[ir hl]at e;cases e
   exact⟨v,by rw[ir (by rw[<-h.1];exact hl)],r⟩
  ·rw[m9 (by rw[i5];omega)]at e;cases e
 ·rw[bg hj]at e;rw[bg hj];exact h.2 j p e
theorem RO.stayQ{a:Addr}{o:MO}(p:φ<+:φ')(t:Kq H H')(e:H' a=H a)(h:RO C φ H a o):RO C φ' H' a o:=by
 cases o with
 |lst ps=>obtain⟨vs,q,r⟩:=h;exact⟨vs,e.trans q,r.monoQ p t⟩
 |dK ps=>obtain⟨vs,q,r⟩:=h;exact⟨vs,e.trans q,r.monoQ p t⟩
 |ins n fs=>obtain⟨c,dx,ks,hc,q,r⟩:=h;exact⟨c,dx,ks,hc,e.trans q,r.monoQ p t⟩
 |dD kvs=>obtain⟨ks,q,r⟩:=h;exact⟨ks,e.trans q,r.monoQ p t⟩
 |vw kd d=>obtain⟨b,hb,q⟩:=h;exact⟨b,gR p hb,e.trans q⟩
 |fz o=>
  cases o with
  |dK kvs=>obtain⟨ob,ks,q,r⟩:=h;exact⟨ob,ks,e.trans q,r.monoQ p t⟩
  |dD kvs=>obtain⟨ob,ks,q,r⟩:=h;exact⟨ob,ks,e.trans q,r.monoQ p t⟩
  |_=>exact h.elim
theorem RO.stay{a:Addr}{o:MO}(p:φ<+:φ')(t:Kp H H')(e:H' a=H a)(h:RO C φ H a o):RO C φ' H' a o:=h.stayQ p t.q e
theorem RO.some{a:Addr}{o:MO}(h:RO C φ H a o):∃u,H a=some u:=by
 cases o with
 |lst ps=>obtain⟨vs,q,r⟩:=h;exact⟨_,q⟩
 |dK ps=>obtain⟨vs,q,r⟩:=h;exact⟨_,q⟩
 |ins n fs=>obtain⟨c,dx,ks,hc,q,r⟩:=h;exact⟨_,q⟩
 |dD kvs=>obtain⟨ks,q,r⟩:=h;exact⟨_,q⟩
 |vw kd d=>obtain⟨b,hb,q⟩:=h;exact⟨_,q⟩
 |fz o=>
  cases o with
  |dK kvs=>obtain⟨ob,ks,q,r⟩:=h;exact⟨_,q⟩
  |dD kvs=>obtain⟨ob,ks,q,r⟩:=h;exact⟨_,q⟩
  |_=>exact h.elim
theorem RH.get{h:PH}(r:RH C φ H h){n:Nat}{o:MO}(e:h[n]?=some o):∃a,φ[n]?=some a/\RO C φ H a o:=by
 have hn:=(ab.mp e).1;have:n<φ.length:=by rw[r.len];exact hn
 exact⟨φ[n],by simp[this],r.at' n _ o (by simp[this]) e⟩
theorem RH.tracked{h:PH}(r:RH C φ H h){n:Nat}{a:Addr}(e:φ[n]?=some a):∃u,H a=some u:=by
 have hn:=(ab.mp e).1;have:n<h.length:=by rw[<-r.len];exact hn
 exact(r.at' n a h[n] e (by simp[this])).some
theorem RH.aside{h:PH}(r:RH C φ H h){a:Addr}{o:HO}(e:H a=none):RH C φ (upd H a o) h:=
 ⟨r.len,r.nd,λn b ob h1 h2=>by
  have q:=r.at' n b ob h1 h2;obtain⟨u,hu⟩:=q.some;exact q.stay (az) (Kp.new e) (bG (cM hu e))⟩
theorem RH.new{h:PH}(r:RH C φ H h){a:Addr}{u:HO}{o:MO}(e:H a=none)(q:RO C (φ++[a]) (upd H a u) a o):RH C (φ++[a]) (upd H a u) (h++[o]):=by
 refine⟨by simp[r.len],?_,λn b ob h1 h2=>?_⟩
 ·rw[jk];refine⟨r.nd,by simp,λx hx y hy z=>?_⟩;rw[bf]at hy;subst hy z;obtain⟨n,hn⟩:=d7.mp hx;obtain⟨u',hu⟩:=r.tracked hn;rw[e]at hu;cases hu
 ·by_cases hn:n<φ.length
  ·rw[d4 hn]at h1;rw[d4 (by rw[<-r.len];exact hn)]at h2;have q':=r.at' n b ob h1 h2;obtain⟨u',hu⟩:=q'.some;exact q'.stay (c8 _ _) (Kp.new e) (bG (cM hu e))
  ·have hn':n=φ.length:=by
    have:=(ab.mp h1).1;simp at this;omega
   subst hn';rw[ft (ak _),Nat.sub_self]at h1;rw[r.len,ft (ak _),Nat.sub_self]at h2;cases h1
   cases h2
   exact q
theorem RH.write{h:PH}(r:RH C φ H h){n:Nat}{a:Addr}{u:HO}{o:MO}(e:φ[n]?=some a)(t:CU (H a))(q:RO C φ (upd H a u) a o):RH C φ (upd H a u) (h.set n o):=by
 refine⟨by rw[i5];exact r.len,r.nd,λm b ob h1 h2=>?_⟩
 by_cases hm:n=m
 ·subst hm;rw[e]at h1;cases h1;have hl:n<h.length:=by rw[<-r.len];exact(ab.mp e).1
  rw[ir hl]at h2;cases h2
  exact q
 ·rw[bg hm]at h2;have hb:b≠a:=λz=>by
   subst z;exact hm ((List.getElem?_inj (ab.mp e).1 r.nd).mp (e.trans h1.symm))
  exact(r.at' m b ob h1 h2).stay az (Kp.upd t) (bG hb)
end
section
variable(C:MC)(φ:List Addr)(H:Hp)
def post(r:Rs PV)(Q:VK):Prop:=match r with
 |.ok p h=>∀φ' v H',φ<+:φ'->Kp H H'->RH C φ' H' h->RV C φ' H' p v->Q v H'
 |.exc x h=>∀φ' H',φ<+:φ'->Kp H H'->RH C φ' H' h->C.ex φ' H' x
 |.bad=>False
def bW(r:Rs Bool)(Q:Bool->Hp->Prop):Prop:=match r with
 |.ok b h=>∀φ' H',φ<+:φ'->Kp H H'->RH C φ' H' h->Q b H'
 |.exc x h=>∀φ' H',φ<+:φ'->Kp H H'->RH C φ' H' h->C.ex φ' H' x
 |.bad=>False
def postA(r:Rs (List PV))(Q:List V->Hp->Prop):Prop:=match r with
 |.ok ps h=>∀φ' vs H',φ<+:φ'->Kp H H'->RH C φ' H' h->RVs C φ' H' ps vs->Q vs H'
 |.exc x h=>∀φ' H',φ<+:φ'->Kp H H'->RH C φ' H' h->C.ex φ' H' x
 |.bad=>False
def cB(r:Fl)(D:Ends):Prop:=match r with
 |.nx δ h=>∀φ' σ H',φ<+:φ'->Kp H H'->RH C φ' H' h->RE C φ' H' δ σ->D.nx σ H'
 |.rt p h=>∀φ' v H',φ<+:φ'->Kp H H'->RH C φ' H' h->RV C φ' H' p v->D.rt v H'
 |.bk δ h=>∀φ' σ H',φ<+:φ'->Kp H H'->RH C φ' H' h->RE C φ' H' δ σ->D.bk σ H'
 |.ct δ h=>∀φ' σ H',φ<+:φ'->Kp H H'->RH C φ' H' h->RE C φ' H' δ σ->D.ct σ H'
 |.exc x h=>∀φ' H',φ<+:φ'->Kp H H'->RH C φ' H' h->C.ex φ' H' x
 |.bad=>False
end
section
variable{C:MC}{φ φ1:List Addr}{H H1:Hp}
theorem post.weak{r:Rs PV}{Q:VK}(p:φ<+:φ1)(t:Kp H H1)(h:post C φ H r Q):post C φ1 H1 r Q:=by
 cases r with
 |ok a h'=>exact λφ' v H' p' t'=>h φ' v H' (p.trans p') (t.trans t')
 |exc a h'=>exact λφ' H' p' t'=>h φ' H' (p.trans p') (t.trans t')
 |bad=>exact h
theorem bW.weak{r:Rs Bool}{Q:Bool->Hp->Prop}(p:φ<+:φ1)(t:Kp H H1)(h:bW C φ H r Q):bW C φ1 H1 r Q:=by
 cases r with
 |ok a h'=>exact λφ' H' p' t'=>h φ' H' (p.trans p') (t.trans t')
 |exc a h'=>exact λφ' H' p' t'=>h φ' H' (p.trans p') (t.trans t')
 |bad=>exact h
theorem postA.weak{r:Rs (List PV)}{Q:List V->Hp->Prop}(p:φ<+:φ1)(t:Kp H H1)(h:postA C φ H r Q):postA C φ1 H1 r Q:=by
 cases r with
 |ok a h'=>exact λφ' v H' p' t'=>h φ' v H' (p.trans p') (t.trans t')
 |exc a h'=>exact λφ' H' p' t'=>h φ' H' (p.trans p') (t.trans t')
 |bad=>exact h
theorem cB.weak{r:Fl}{D:Ends}(p:φ<+:φ1)(t:Kp H H1)(h:cB C φ H r D):cB C φ1 H1 r D:=by
 cases r with
 |nx a h'=>exact λφ' v H' p' t'=>h φ' v H' (p.trans p') (t.trans t')
 |rt a h'=>exact λφ' v H' p' t'=>h φ' v H' (p.trans p') (t.trans t')
 |bk a h'=>exact λφ' v H' p' t'=>h φ' v H' (p.trans p') (t.trans t')
 |ct a h'=>exact λφ' v H' p' t'=>h φ' v H' (p.trans p') (t.trans t')
 |exc a h'=>exact λφ' H' p' t'=>h φ' H' (p.trans p') (t.trans t')
 |bad=>exact h
theorem post.imp{r:Rs PV}{Q Q':VK}(h:post C φ H r Q)(i:∀v H',Q v H'->Q' v H'):post C φ H r Q':=by
 cases r with
 |ok a h'=>exact λφ' v H' p t rh rv=>i v H' (h φ' v H' p t rh rv)
 |exc a h'=>exact h
 |bad=>exact h
theorem post.bind{r:Rs PV}{f:PV->PH->Rs PV}{Q:VK}(h:post C φ H (r.bind f) Q):post C φ H r λv H1=>∃φ1 p h1,φ<+:φ1/\Kp H H1/\RH C φ1 H1 h1/\RV C φ1 H1 p v/\post C φ1 H1 (f p h1) Q:=by
 cases r with
 |ok a h'=>exact λφ' v H' p t rh rv=>⟨φ',a,h',p,t,rh,rv,post.weak p t h⟩
 |exc a h'=>exact h
 |bad=>exact h
theorem post.bindB{r:Rs PV}{f:PV->PH->Rs Bool}{Q:Bool->Hp->Prop}(h:bW C φ H (r.bind f) Q):post C φ H r λv H1=>∃φ1 p h1,φ<+:φ1/\Kp H H1/\RH C φ1 H1 h1/\RV C φ1 H1 p v/\bW C φ1 H1 (f p h1) Q:=by
 cases r with
 |ok a h'=>exact λφ' v H' p t rh rv=>⟨φ',a,h',p,t,rh,rv,bW.weak p t h⟩
 |exc a h'=>exact h
 |bad=>exact h
theorem bW.bind{r:Rs Bool}{f:Bool->PH->Rs PV}{Q:VK}(h:post C φ H (r.bind f) Q):bW C φ H r λb H1=>∃φ1 h1,φ<+:φ1/\Kp H H1/\RH C φ1 H1 h1/\post C φ1 H1 (f b h1) Q:=by
 cases r with
 |ok a h'=>exact λφ' H' p t rh=>⟨φ',h',p,t,rh,post.weak p t h⟩
 |exc a h'=>exact h
 |bad=>exact h
theorem bW.bindB{r:Rs Bool}{f:Bool->PH->Rs Bool}{Q:Bool->Hp->Prop}(h:bW C φ H (r.bind f) Q):bW C φ H r λb H1=>∃φ1 h1,φ<+:φ1/\Kp H H1/\RH C φ1 H1 h1/\bW C φ1 H1 (f b h1) Q:=by
 cases r with
 |ok a h'=>exact λφ' H' p t rh=>⟨φ',h',p,t,rh,bW.weak p t h⟩
 |exc a h'=>exact h
 |bad=>exact h
theorem postA.bind{r:Rs (List PV)}{f:List PV->PH->Rs PV}{Q:VK}(h:post C φ H (r.bind f) Q):postA C φ H r λvs H1=>∃φ1 ps h1,φ<+:φ1/\Kp H H1/\RH C φ1 H1 h1/\RVs C φ1 H1 ps vs/\post C φ1 H1 (f ps h1) Q:=by
 cases r with
 |ok a h'=>exact λφ' v H' p t rh rv=>⟨φ',a,h',p,t,rh,rv,post.weak p t h⟩
 |exc a h'=>exact h
 |bad=>exact h
theorem postA.bindA{r:Rs (List PV)}{f:List PV->PH->Rs (List PV)}{Q:List V->Hp->Prop}(h:postA C φ H (r.bind f) Q):postA C φ H r λvs H1=>∃φ1 ps h1,φ<+:φ1/\Kp H H1/\RH C φ1 H1 h1/\RVs C φ1 H1 ps vs/\postA C φ1 H1 (f ps h1) Q:=by
 cases r with
 |ok a h'=>exact λφ' v H' p t rh rv=>⟨φ',a,h',p,t,rh,rv,postA.weak p t h⟩
 |exc a h'=>exact h
 |bad=>exact h
theorem post.bindA{r:Rs PV}{f:PV->PH->Rs (List PV)}{Q:List V->Hp->Prop}(h:postA C φ H (r.bind f) Q):post C φ H r λv H1=>∃φ1 p h1,φ<+:φ1/\Kp H H1/\RH C φ1 H1 h1/\RV C φ1 H1 p v/\postA C φ1 H1 (f p h1) Q:=by
 cases r with
 |ok a h'=>exact λφ' v H' p t rh rv=>⟨φ',a,h',p,t,rh,rv,postA.weak p t h⟩
 |exc a h'=>exact h
 |bad=>exact h
theorem post.val{p:PV}{v:V}{h:PH}{Q:VK}(q:post C φ H (.ok p h) Q)(rh:RH C φ H h)(rv:RV C φ H p v):Q v H:=q φ v H az (Kp.refl H) rh rv
end
end L2
namespace L2
open PySem PySem.Spec PyProof.Rows
structure Cxt(C:MC)(k:Nat)(X:Cx):Prop where
 K:X.K=C.K
 calm:X.calm=true
 room:fW k X.A
 bn:∀x∈C.bs,X.mg x=none
 w:X.w=C.w
theorem Cxt.hu{C:MC}{k:Nat}{X:Cx}(c:Cxt C k X):X.A.units+1<cLine:=Vt c.room
theorem Cxt.hu64{C:MC}{k:Nat}{X:Cx}(c:Cxt C k X):X.A.units+64<cLine:=c.room.units
theorem Cxt.comp{C:MC}{k:Nat}{X:Cx}(c:Cxt C k X)(sc:Scope)(N:List Str)(a:Addr)(fp:List Addr)(s:Shared)(H:Hp):Cxt C k (X.comp sc N a fp s H):=⟨c.K,c.calm,c.room,c.bn,c.w⟩
section
variable(C:MC)
def rd(m:Me):TE:=λσ H Q=>∃φ δ h,RH C φ H h/\RE C φ H δ σ/\post C φ H (m δ h) Q
def rdB(m:Ev->PH->Rs Bool):TT:=λσ H Q=>∃φ δ h,RH C φ H h/\RE C φ H δ σ/\bW C φ H (m δ h) Q
def rdA(m:Ev->PH->Rs (List PV)):TA:=λσ H Q=>∃φ δ h,RH C φ H h/\RE C φ H δ σ/\postA C φ H (m δ h) Q
def rdS(m:Ms):TS:=λD σ H=>∃φ δ h,RH C φ H h/\RE C φ H δ σ/\cB C φ H (m δ h) D
def r2(g:PV->PV->PH->Rs PV):R2:=λx y H Q=>∃φ h p q,RH C φ H h/\RV C φ H p x/\RV C φ H q y/\post C φ H (g p q h) Q
def r1(g:PV->PH->Rs PV):V->Hp->VK->Prop:=λx H Q=>∃φ h p,RH C φ H h/\RV C φ H p x/\post C φ H (g p h) Q
def rL(g:List PV->PH->Rs PV):List V->Hp->VK->Prop:=λxs H Q=>∃φ h ps,RH C φ H h/\RVs C φ H ps xs/\post C φ H (g ps h) Q
end
variable{C:MC}{k:Nat}{X:Cx}
def SE(C:MC)(k:Nat)(X:Cx)(e:Expr)(m:Me):Prop:=Cxt C k X->PE X e (rd C m)
def ST(C:MC)(k:Nat)(X:Cx)(e:Expr)(m:Ev->PH->Rs Bool):Prop:=Cxt C k X->PT X e (rdB C m)
def SA(C:MC)(k:Nat)(X:Cx)(es:List Expr)(m:Ev->PH->Rs (List PV)):Prop:=Cxt C k X->PA X es (rdA C m)
def SSt(C:MC)(k:Nat)(X:Cx)(st:Stmt)(m:Ms):Prop:=Cxt C k X->PS X st (rdS C m)
def SSs(C:MC)(k:Nat)(X:Cx)(st:List Stmt)(m:Ms):Prop:=Cxt C k X->PSs X st (rdS C m)
def OpS(C:MC)(k:Nat)(X:Cx)(f:Value->Value->Sem Value)(g:PV->PV->PH->Rs PV):Prop:=Cxt C k X->OpR X f (r2 C g)
def UnS(C:MC)(k:Nat)(X:Cx)(f:Value->Sem Value)(g:PV->PH->Rs PV):Prop:=Cxt C k X->UnR X f (r1 C g)
def gU(C:MC)(k:Nat)(X:Cx)(f:Value)(g:List PV->PH->Rs PV):Prop:=Cxt C k X->bO X f (rL C g)
def Bo:Ev->Nat->Option PV
 |[],_=>none
 |x::_,0=>x
 |_::r,n+1=>Bo r n
@[simp]theorem Jb(x:Option PV)(r:Ev):Bo (x::r) 0=x:=(rfl)
@[simp]theorem Jc(x:Option PV)(r:Ev)(n:Nat):Bo (x::r) (n+1)=Bo r n:=(rfl)
theorem vT:∀{δ:Ev}{i:Nat}{p:PV},Bo δ i=some p->δ[i]?=some (some p)
 |[],_,_,h=>by cases h
 |x::_,0,p,h=>by
  have h':x=some p:=h;simp[h']
 |_::r,n+1,p,h=>by
  rw[g7];exact vT (δ:=r) (i:=n) h
def mV(i:Nat):Me:=λδ h=>match Bo δ i with
 |some p=>.ok p h
 |none=>.bad
def mC(p:PV):Me:=λ_ h=>.ok p h
theorem aA(i:Nat){x:Str}{pos:Pos}(hN:X.N[i]?=some x:=by rfl)(hv:Vis X.env.scope x:=by first|exact Or.inl rfl|exact Or.inr (Or.inl rfl)|exact Or.inr (Or.inr rfl))(hd:(x == ("__debug__" : Str))=false:=by decide)
  (hcd:(x == ("__classdict__" : Str))=false:=by decide):SE C k X (.Name x pos) (mV i):=λ_=>by
 refine(KW hN hv hd hcd).imp λσ H Q h=>?_;obtain⟨φ,δ,h,rh,re,p⟩:=h;unfold mV at p;cases e:Bo δ i with
 |none=>rw[e]at p;exact p.elim
 |some x=>
  rw[e]at p;obtain⟨v,hv,rv⟩:=re.2 i x (vT e);exact⟨v,hv,p.val rh rv⟩
theorem aG{i j pos}:SE C k X (.Constant (.int i) j pos) (mC (.int i)):=λ_=>Sq.imp λσ H Q ⟨φ,δ,h,rh,re,p⟩=>p.val rh rfl
theorem Fj{i j pos}:SE C k X (.Constant (.bool i) j pos) (mC (.bl i)):=λ_=>V7.imp λσ H Q ⟨φ,δ,h,rh,re,p⟩=>p.val rh rfl
theorem Ht{j pos}:SE C k X (.Constant .none j pos) (mC .non):=λ_=>Sr.imp λσ H Q ⟨φ,δ,h,rh,re,p⟩=>p.val rh rfl
theorem nK{i j pos}:SE C k X (.Constant (.str i) j pos) (mC (.str i)):=λ_=>Su.imp λσ H Q ⟨φ,δ,h,rh,re,p⟩=>p.val rh rfl
def aD(g:PV->PV->PH->Rs PV)(ma mb:Me):Me:=λδ h=>(ma δ h).bind λx h1=>(mb δ h1).bind λy h2=>g x y h2
theorem Hu{g:PV->PV->PH->Rs PV}{ma mb:Me}{σ:St}{H:Hp}{Q:VK}(h:rd C (aD g ma mb) σ H Q):tOp (r2 C g) (rd C ma) (rd C mb) σ H Q:=by
 obtain⟨φ,δ,h,rh,re,p⟩:=h;refine⟨φ,δ,h,rh,re,(post.bind p).imp ?_⟩;rintro v H1 ⟨φ1,x,h1,p1,t1,rh1,rv1,q1⟩;refine⟨φ1,δ,h1,rh1,re.mono p1 t1,(post.bind q1).imp ?_⟩;rintro u H2 ⟨φ2,y,h2,p2,t2,rh2,rv2,q2⟩;exact⟨φ2,h2,x,y,rh2,rv1.mono p2 t2,rv2,q2⟩
section
variable{a b e:Expr}{ma mb:Me}{g:PV->PV->PH->Rs PV}{pos:Pos}
theorem aM{op:Operator}(ho:OpS C k X (fv op) g)(ha:SE C k X a ma)(hb:SE C k X b mb):SE C k X (.BinOp a op b pos) (aD g ma mb):=λc=>
 (Ve (ho c) (ha c) (hb c)).imp λσ H Q h=>Hu h
theorem S5{op:CmpOp}(ho:OpS C k X (c9 op) g)(ha:SE C k X a ma)(hb:SE C k X b mb)(hm:behindInMarks op b=false:=by first|exact L6 _|rfl):SE C k X (.Compare a [op] [b] pos) (aD g ma mb):=λc=>
 (P4 (ho c) (ha c) (hb c) hm).imp λσ H Q h=>Hu h
def mUn(g:PV->PH->Rs PV)(ma:Me):Me:=λδ h=>(ma δ h).bind g
theorem VH{op:UnaryOp}{g:PV->PH->Rs PV}(ho:UnS C k X (unaryOp op) g)(ha:SE C k X a ma):SE C k X (.UnaryOp op a pos) (mUn g ma):=λc=>
 (Vf (ho c) (ha c)).imp λσ H Q h=>by
  obtain⟨φ,δ,h,rh,re,p⟩:=h;refine⟨φ,δ,h,rh,re,(post.bind p).imp ?_⟩;rintro v H1 ⟨φ1,x,h1,p1,t1,rh1,rv1,q1⟩;exact⟨φ1,h1,x,rh1,rv1,q1⟩
end
def aN(h:PH)(n:Nat):Option (List PV):=match h[n]? with
 |some (.lst xs)=>some xs
 |_=>none
theorem bJ{φ:List Addr}{H:Hp}{h:PH}{n:Nat}{xs:List PV}(rh:RH C φ H h)(e:aN h n=some xs):∃a vs,φ[n]?=some a/\SqL C.K H a vs/\RVs C φ H xs vs:=by
 unfold aN at e;cases q:h[n]? with
 |none=>rw[q]at e;cases e
 |some o=>
  rw[q]at e;obtain⟨a,ha,ro⟩:=rh.get q;cases o with
  |lst ys=>cases e;obtain⟨vs,q',r⟩:=ro;exact⟨a,vs,ha,SqL.of q',r⟩
  |_=>cases e
def dE(h:PH)(n:Nat):Option (List PV):=match h[n]? with
 |some (.lst xs)=>some xs
 |_=>none
theorem iG{h:PH}{n:Nat}{xs:List PV}(e:dE h n=some xs):h[n]?=some (.lst xs):=by
 unfold dE at e;cases q:h[n]? with
 |none=>rw[q]at e;cases e
 |some o=>
  rw[q]at e;cases o with
  |lst ys=>cases e;rfl
  |_=>cases e
def cT(x:PV)(h:PH):Option (List PV):=match x with
 |.ref n=>aN h n
 |.fl xs=>some xs
 |_=>none
theorem dJ{φ:List Addr}{H:Hp}{h:PH}{x:PV}{v:V}{xs:List PV}(rh:RH C φ H h)(rv:RV C φ H x v)(e:cT x h=some xs):∃a vs,v=.ref a/\SqL C.K H a vs/\RVs C φ H xs vs:=by
 cases x with
 |ref n=>
  obtain⟨a,rfl,ha⟩:=rv;obtain⟨a2,vs,ha2,sa,ra⟩:=bJ rh e;rw[ha]at ha2;cases ha2;exact⟨a,vs,rfl,sa,ra⟩
 |fl ys=>
  cases e
  obtain⟨a,vs,rfl,sa,ra⟩:=rv;exact⟨a,vs,rfl,sa.sq,ra⟩
 |_=>cases e
def S6:List PV->Bool
 |[]=>true
 |_::_=>false
def LD:PV->PV->PH->Rs PV:=λx y h=>match x,y with
 |.int i,.int j=>.ok (.int (i+j)) h
 |.str i,.str j=>if i.length+j.length<=aw then .ok (.str (i++j)) h else .bad
 |.tup xs,.tup ys=>if S6 xs=false/\xs.length+ys.length<=aw then .ok (.tup (xs++ys)) h else .bad
 |.ref a,.ref b=>match dE h a,dE h b with
  |some xs,some ys=>if xs.length+ys.length<=aw then .ok (.ref h.length) (h++[.lst (xs++ys)]) else .bad
  |_,_=>.bad
 |_,_=>.bad
theorem post.ite{φ:List Addr}{H:Hp}{c:Prop}[Decidable c]{r:Rs PV}{Q:VK}(h:post C φ H (if c then r else .bad) Q):c/\post C φ H r Q:=by
 by_cases hc:c
 ·rw[if_pos hc]at h;exact⟨hc,h⟩
 ·rw[if_neg hc]at h;exact h.elim
theorem post.lnew{φ:List Addr}{H:Hp}{h:PH}{xs:List PV}{vs:List V}{Q:VK}(q:post C φ H (.ok (.ref h.length) (h++[.lst xs])) Q)(rh:RH C φ H h)(r:RVs C φ H xs vs){p:Addr}(hp:H p=none):Q (.ref p) (upd H p (.lst vs)):=
 q (φ++[p]) (.ref p) _ (c8 _ _) (Kp.new hp) (rh.new hp ⟨vs,bF,r.mono (c8 _ _) (Kp.new hp)⟩) ⟨p,rfl,by rw[<-rh.len];simp⟩
theorem post.tnew{φ:List Addr}{H:Hp}{h:PH}{xs:List PV}{vs:List V}{Q:VK}(q:post C φ H (.ok (.tup xs) h) Q)(rh:RH C φ H h)(r:RVs C φ H xs vs){p:Addr}(hp:H p=none):Q (.ref p) (upd H p (.tup vs)):=
 q φ (.ref p) _ az (Kp.new hp) (rh.aside hp) ⟨p,vs,rfl,SqT.of bF,r.mono az (Kp.new hp)⟩
theorem post.lset{φ:List Addr}{H:Hp}{h:PH}{n:Nat}{a:Addr}{p:PV}{v:V}{xs:List PV}{ws vs:List V}{Q:VK}(q:post C φ H (.ok p (h.set n (.lst xs))) Q)(rh:RH C φ H h)(e:φ[n]?=some a)(hl:H a=some (.lst ws))(r:RVs C φ H xs vs)(rv:RV C φ H p v):Q v (upd H a (.lst vs)):=
 q φ v _ az (Kp.lst hl) (rh.write e (by rw[hl];trivial) ⟨vs,bF,r.mono az (Kp.lst hl)⟩) (rv.mono az (Kp.lst hl))
theorem LF{xs:List PV}{vs:List V}{φ:List Addr}{H:Hp}(r:RVs C φ H xs vs)(h:S6 xs=false):vs≠[]:=by
 cases xs with
 |nil=>cases h
 |cons x xs=>
  cases vs with
  |nil=>exact r.elim
  |cons=>intro z;cases z
theorem VI:OpS C k X (fv .Add) LD:=λc=>(Pg C.K c.K).imp λx y H Q h=>by
 obtain⟨φ,h,p,q,rh,rx,ry,po⟩:=h;unfold LD at po;cases p with
 |int i=>
  cases q with
  |int j=>cases rx;cases ry;exact po.val rh rfl
  |_=>exact po.elim
 |str i=>
  cases q with
  |str j=>cases rx;cases ry;exact⟨po.ite.1,po.ite.2.val rh rfl⟩
  |_=>exact po.elim
 |tup xs=>
  cases q with
  |tup ys=>
   obtain⟨a,vs,rfl,sa,ra⟩:=rx;obtain⟨b,us,rfl,sb,rb⟩:=ry;obtain⟨⟨h1,h2⟩,po⟩:=po.ite;refine .inr ⟨a,b,vs,us,rfl,rfl,sa,sb,LF ra h1,by rw[<-ra.length,<-rb.length];exact h2,λz=>?_,λz p hp=>po.tnew rh (ra.append rb) hp⟩;subst z;have e:ys=[]:=List.eq_nil_of_length_eq_zero rb.length;subst e;exact po.val rh ⟨a,vs,rfl,sa,by rw[oj];exact ra⟩
  |_=>exact po.elim
 |ref n=>
  cases q with
  |ref m=>
   obtain⟨a,rfl,ha⟩:=rx;obtain⟨b,rfl,hb⟩:=ry;dsimp only at po;cases e1:dE h n with
   |none=>rw[e1]at po;exact po.elim
   |some xs=>
    cases e2:dE h m with
    |none=>rw[e1,e2]at po;exact po.elim
    |some ys=>
     rw[e1,e2]at po;obtain⟨vs,h1,r1⟩:=rh.at' n a _ ha (iG e1);obtain⟨us,h2,r2⟩:=rh.at' m b _ hb (iG e2);obtain⟨hz,po⟩:=po.ite;exact .inl ⟨a,b,vs,us,rfl,rfl,h1,h2,by rw[<-r1.length,<-r2.length];exact hz,λp hp=>po.lnew rh (r1.append r2) hp⟩
  |_=>exact po.elim
 |_=>exact po.elim
def vInt(P:Int->Int->Prop)[∀i j,Decidable (P i j)](f:Int->Int->Int):PV->PV->PH->Rs PV:=λx y h=>match x,y with
 |.int i,.int j=>if P i j then .ok (.int (f i j)) h else .bad
 |_,_=>.bad
theorem Hv{f:Value->Value->Sem Value}{P:Int->Int->Prop}[∀i j,Decidable (P i j)]{g:Int->Int->Int}(ho:OpR X f (A0 P g)):OpS C k X f (vInt P g):=λc=>ho.imp λx y H Q h=>by
 obtain⟨φ,h,p,q,rh,rx,ry,po⟩:=h;unfold vInt at po;cases p with
 |int i=>
  cases q with
  |int j=>cases rx;cases ry;exact⟨po.ite.1,po.ite.2.val rh rfl⟩
  |_=>exact po.elim
 |_=>exact po.elim
noncomputable instance(i j:Int):Decidable (CJ i j):=g9 _
noncomputable instance(i j:Int):Decidable (L5 i j):=g9 _
noncomputable instance(i j:Int):Decidable (IQ i j):=g9 _
def Fk:PV->PV->PH->Rs PV:=λx y h=>match x,y with
 |.int i,.int j=>.ok (.int (i-j)) h
 |_,_=>.bad
theorem Hw:OpS C k X (fv .Sub) Fk:=λc=>Ph.imp λx y H Q h=>by
 obtain⟨φ,h,p,q,rh,rx,ry,po⟩:=h;unfold Fk at po;cases p with
 |int i=>
  cases q with
  |int j=>cases rx;cases ry;exact po.val rh rfl
  |_=>exact po.elim
 |_=>exact po.elim
noncomputable abbrev Bp:=vInt CJ λi j=>i*j
noncomputable abbrev nB:=vInt L5 λi j=>i/j
abbrev gE:=vInt (λ_ j=>0<j) λi j=>i%j
noncomputable abbrev LG:=vInt IQ λi j=>i ^ j.toNat
theorem Hx:OpS C k X (fv .Mult) Bp:=Hv Pi
theorem iH:OpS C k X (fv .FloorDiv) nB:=Hv Pj
theorem dM:OpS C k X (fv .Mod) gE:=Hv Pk
theorem LH:OpS C k X (fv .Pow) LG:=Hv Pl
def LI:PV->PH->Rs PV:=λx h=>match x with
 |.int i=>.ok (.int (-i)) h
 |_=>.bad
end L2
namespace L2
open PySem PySem.Spec PyProof.Rows
variable{C:MC}{k:Nat}{X:Cx}
def D5(f:Int->Int->Bool)(g:List Nat->List Nat->Bool):PV->PV->PH->Rs PV:=λx y h=>match x,y with
 |.int i,.int j=>.ok (.bl (f i j)) h
 |.str i,.str j=>.ok (.bl (g i.cps.toList j.cps.toList)) h
 |_,_=>.bad
theorem LJ{f:Value->Value->Sem Value}{p:Int->Int->Bool}{g:List Nat->List Nat->Bool}(ho:OpR X f (CS p g)):OpS C k X f (D5 p g):=λc=>ho.imp λx y H Q h=>by
 obtain⟨φ,h,p,q,rh,rx,ry,po⟩:=h;unfold D5 at po;cases p with
 |int i=>
  cases q with
  |int j=>cases rx;cases ry;exact po.val rh rfl
  |_=>exact po.elim
 |str i=>
  cases q with
  |str j=>cases rx;cases ry;exact po.val rh rfl
  |_=>exact po.elim
 |_=>exact po.elim
abbrev vLt:=D5 (λi j=>decide (i<j)) λi j=>decide (i<j)
abbrev vGt:=D5 (λi j=>decide (j<i)) λi j=>decide (j<i)
abbrev vLe:=D5 (λi j=>decide (i<=j)) λi j=>!decide (j<i)
abbrev vGe:=D5 (λi j=>decide (j<=i)) λi j=>!decide (i<j)
theorem XI:OpS C k X (c9 .Lt) vLt:=LJ Te
theorem LK:OpS C k X (c9 .Gt) vGt:=LJ Tf
theorem D6:OpS C k X (c9 .LtE) vLe:=LJ Tg
mutual
def PV.d:PV->Option D
 |.non=>some .non
 |.bl b=>some (.bl b)
 |.int i=>some (.int i)
 |.str x=>some (.str x)
 |.tup xs=>match PV.ds xs with
  |some ds=>some (.tup ds)
  |none=>none
 |.ref _=>none
 |.ty _=>none
 |.fl _=>none
def PV.ds:List PV->Option (List D)
 |[]=>some []
 |x::xs=>match PV.d x,PV.ds xs with
  |some d,some ds=>some (d::ds)
  |_,_=>none
end
section
variable{φ:List Addr}{H:Hp}
mutual
theorem RV.rep:∀{x:PV}{d:D}{v:V},RV C φ H x v->x.d=some d->Rep C.K H d v
 |.non,_,_,h,e=>by cases e;exact h
 |.bl _,_,_,h,e=>by cases e;exact h
 |.int _,_,_,h,e=>by cases e;exact h
 |.str _,_,_,h,e=>by cases e;exact h
 |.tup xs,d,v,⟨a,vs,e1,q,r⟩,e=>by
  unfold PV.d at e;cases e2:PV.ds xs with
  |none=>rw[e2]at e;cases e
  |some ds=>
   rw[e2]at e;cases e
   exact⟨a,vs,e1,q,RVs.reps r e2⟩
 |.ref _,_,_,_,e=>by cases e
 |.ty _,_,_,_,e=>by cases e
 |.fl _,_,_,_,e=>by cases e
theorem RVs.reps:∀{xs:List PV}{ds:List D}{vs:List V},RVs C φ H xs vs->PV.ds xs=some ds->cD C.K H ds vs
 |[],_,[],_,e=>by cases e;trivial
 |x::xs,_,v::vs,⟨h,r⟩,e=>by
  unfold PV.ds at e;cases e1:PV.d x with
  |none=>rw[e1]at e;cases e
  |some d=>
   cases e2:PV.ds xs with
   |none=>rw[e1,e2]at e;cases e
   |some ds=>
    rw[e1,e2]at e;cases e
    exact⟨RV.rep h e1,RVs.reps r e2⟩
 |[],_,_::_,h,_=>h.elim
 |_::_,_,[],h,_=>h.elim
end
end
def jA(x y:PV)(h:PH):Option Bool:=match x.d,y.d with
 |some d,some e=>if d.depth<=40 then some (eqD d e) else none
 | _,_=>match cT x h,cT y h with
   |some xs,some ys=>match PV.ds xs,PV.ds ys with
    |some ds,some es=>if D.depths ds<=40 then some (dX ds es) else none
    |_,_=>none
   |_,_=>none
def ofB(o:Option Bool)(h:PH):Rs PV:=match o with
 |some b=>.ok (.bl b) h
 |none=>.bad
def vEq:PV->PV->PH->Rs PV:=λx y h=>ofB (jA x y h) h
def vNe:PV->PV->PH->Rs PV:=λx y h=>ofB ((jA x y h).map not) h
theorem jB{φ:List Addr}{H:Hp}{h:PH}{p q:PV}{x y:V}{b:Bool}(rh:RH C φ H h)(rx:RV C φ H p x)(ry:RV C φ H q y)(e:jA p q h=some b):
  (∃d e,Rep C.K H d x/\Rep C.K H e y/\d.depth<=40/\b=eqD d e)\/(∃ds es,CV C.K H ds x/\CV C.K H es y/\D.depths ds<=40/\b=dX ds es):=by
 unfold jA at e;split at e
 ·rename_i d e' h1 h2;split at e
  ·rename_i hd;cases e
   exact .inl ⟨d,e',rx.rep h1,ry.rep h2,hd,rfl⟩
  ·cases e
 ·split at e
  ·rename_i xs ys h1 h2;split at e
   ·rename_i ds es h3 h4;split at e
    ·rename_i hd;cases e
     obtain⟨a',vs,rfl,sa,ra⟩:=dJ rh rx h1;obtain⟨b'',us,rfl,sb,rb⟩:=dJ rh ry h2;exact .inr ⟨ds,es,⟨a',vs,rfl,sa,ra.reps h3⟩,⟨b'',us,rfl,sb,rb.reps h4⟩,hd,rfl⟩
    ·cases e
   ·cases e
  ·cases e
theorem post.ofB{φ:List Addr}{H:Hp}{h:PH}{o:Option Bool}{Q:VK}(q:post C φ H (ofB o h) Q):∃b,o=some b/\post C φ H (.ok (.bl b) h) Q:=by
 cases o with
 |none=>exact q.elim
 |some b=>exact⟨b,rfl,q⟩
theorem Bq:OpS C k X (c9 .Eq) vEq:=λc=>((Tj c.hu64 C.K c.K).or (To c.hu64 C.K c.K)).imp λx y H Q h=>by
 obtain⟨φ,h,p,q,rh,rx,ry,po⟩:=h;obtain⟨b,e,po⟩:=po.ofB;rcases jB rh rx ry e with⟨d,e',h1,h2,h3,rfl⟩|⟨d,e',h1,h2,h3,rfl⟩
 ·exact .inl ⟨d,e',h1,h2,h3,po.val rh rfl⟩
 ·exact .inr ⟨d,e',h1,h2,h3,po.val rh rfl⟩
theorem Pu:OpS C k X (c9 .NotEq) vNe:=λc=>((Tn c.hu64 C.K c.K).or (Tp c.hu64 C.K c.K)).imp λx y H Q h=>by
 obtain⟨φ,h,p,q,rh,rx,ry,po⟩:=h;obtain⟨b,e,po⟩:=po.ofB;cases e0:jA p q h with
 |none=>rw[e0]at e;cases e
 |some b'=>
  rw[e0]at e;cases e
  rcases jB rh rx ry e0 with⟨d,e',h1,h2,h3,rfl⟩|⟨d,e',h1,h2,h3,rfl⟩
  ·exact .inl ⟨d,e',h1,h2,h3,po.val rh rfl⟩
  ·exact .inr ⟨d,e',h1,h2,h3,po.val rh rfl⟩
def nZ:PV->Option Key
 |.int i=>some (.inl i)
 |.str x=>some (.inr x)
 |_=>none
def aU{κ:Type}[DecidableEq κ]:List (κ×PV)->κ->Option PV
 |[],_=>none
 |(a,p)::r,b=>if a=b then some p else aU r b
def Br(h:PH)(n:Nat)(x:PV):Option (Option PV):=match h[n]? with
 |some (.dK kvs)=>match nZ x with
  |some key=>some (aU kvs key)
  |none=>none
 |_=>none
def vU(x:PV)(ys:List PV):Option Bool:=match x.d,PV.ds ys with
 |some d,some ds=>if D.depths ds<=40 then some (ds.any λe=>eqD e d) else none
 |_,_=>none
def Jd(x y:PV)(h:PH):Option Bool:=match y with
 |.tup ys=>vU x ys
 |.ref n=>match aN h n with
  |some ys=>vU x ys
  |none=>(Br h n x).map Option.isSome
 |.fl ys=>vU x ys
 |_=>none
def vIn:PV->PV->PH->Rs PV:=λx y h=>ofB (Jd x y h) h
def vV:PV->PV->PH->Rs PV:=λx y h=>ofB ((Jd x y h).map not) h
theorem vW{φ:List Addr}{H:Hp}{x:PV}{v:V}{key:Key}(r:RV C φ H x v)(e:nZ x=some key):v=kV key:=by
 cases x <;> first|(cases e;exact r)|cases e
theorem rX{φ:List Addr}{H:Hp}{κ:Type}[DecidableEq κ]{kvs:List (κ×PV)}{ks:List (κ×V)}(r:RKv C φ H kvs ks)(a:κ):match aU kvs a,iD ks a with
  |some p,some v=>RV C φ H p v
  |none,none=>True
  |_,_=>False:=by
 unfold RKv at r
 induction r with
 |nil=>trivial
 | @cons p q ps qs h t ih=>
  obtain⟨h1,h2⟩:=h;obtain⟨pk,pv⟩:=p
  by_cases e:pk=a
  ·have e':q.1=a:=h1.symm.trans e;rw[oY e'];unfold aU;rw[if_pos e];exact h2
  ·have e':¬ q.1=a:=λz=>e (h1.trans z);rw[oZ e'];unfold aU;rw[if_neg e];exact ih
theorem oA{φ:List Addr}{H:Hp}{h:PH}{n:Nat}{a:Addr}{x:PV}{v:V}{o:Option PV}(rh:RH C φ H h)(ha:φ[n]?=some a)(rv:RV C φ H x v)(e:Br h n x=some o):
  ∃o',rG H a v o'/\o.isSome=o'.isSome/\∀p,o=some p->∃w,o'=some w/\RV C φ H p w:=by
 unfold Br at e;split at e
 ·rename_i kvs hk;split at e
  ·rename_i key hkey;cases e
   obtain⟨ks,hH,rk⟩:=rh.at' n a _ ha hk;have q:=rX rk key;rw[vW rv hkey];refine⟨iD ks key,rG.k hH,?_,λp hp=>?_⟩
   ·cases e1:aU kvs key <;> cases e2:iD ks key <;> rw[e1,e2]at q <;> first|rfl|exact q.elim
   ·rw[hp]at q;cases e2:iD ks key with
    |none=>rw[e2]at q;exact q.elim
    |some w=>rw[e2]at q;exact⟨w,rfl,q⟩
  ·cases e
 ·cases e
theorem Fm{φ:List Addr}{H:Hp}{h:PH}{p q:PV}{x y:V}{b:Bool}(rh:RH C φ H h)(rx:RV C φ H p x)(ry:RV C φ H q y)(e:Jd p q h=some b):
  (∃d a ds vs,y=.ref a/\(SqL C.K H a vs\/SqT C.K H a vs)/\Rep C.K H d x/\cD C.K H ds vs/\D.depths ds<=40/\b=ds.any λe=>eqD e d)\/∃a o,y=.ref a/\rG H a x o/\b=o.isSome:=by
 have go:∀{a:Addr}{vs:List V}{ys:List PV},(SqL C.K H a vs\/SqT C.K H a vs)->RVs C φ H ys vs->vU p ys=some b->∃d a' ds vs,V.ref a=.ref a'/\(SqL C.K H a' vs\/SqT C.K H a' vs)/\Rep C.K H d x/\cD C.K H ds vs/\D.depths ds<=40/\b=ds.any λe=>eqD e d:=by
  intro a vs ys hs hr he;unfold vU at he;split at he
  ·rename_i d ds h1 h2;split at he
   ·rename_i hd;cases he
    exact⟨d,a,ds,vs,rfl,hs,rx.rep h1,hr.reps h2,hd,rfl⟩
   ·cases he
  ·cases he
 unfold Jd at e;split at e
 ·obtain⟨a,vs,rfl,sa,ra⟩:=ry;exact .inl (go (.inr sa) ra e)
 ·rename_i n;obtain⟨a,rfl,ha⟩:=ry;split at e
  ·rename_i ys hl;obtain⟨a2,vs,ha2,sa,ra⟩:=bJ rh hl;rw[ha]at ha2;cases ha2;exact .inl (go (.inl sa) ra e)
  ·cases e':Br h n p with
   |none=>rw[e']at e;cases e
   |some o=>
    rw[e']at e;cases e
    obtain⟨o',g,i,_⟩:=oA rh ha rx e';exact .inr ⟨a,o',rfl,g,i⟩
 ·obtain⟨a,vs,rfl,sa,ra⟩:=ry;exact .inl (go (.inl sa.sq) ra e)
 ·cases e
theorem Pv:OpS C k X (c9 .NotIn) vV:=λc=>((J5 c.hu64 C.K c.K).or (J2 c.hu C.K c.K)).imp λx y H Q h=>by
 obtain⟨φ,h,p,q,rh,rx,ry,po⟩:=h;obtain⟨b,e,po⟩:=po.ofB;cases e':Jd p q h with
 |none=>rw[e']at e;cases e
 |some b'=>
  rw[e']at e;cases e
  rcases Fm rh rx ry e' with⟨d,a,ds,vs,rfl,h1,h2,h3,h4,rfl⟩|⟨a,o,rfl,g,rfl⟩
  ·exact .inl ⟨d,a,ds,vs,rfl,h1,h2,h3,h4,po.val rh rfl⟩
  ·exact .inr (.inr ⟨a,o,rfl,g,po.val rh rfl⟩)
def kE:PV->Bool
 |.non=>true
 |_=>false
def vIs:PV->PV->PH->Rs PV:=λx y h=>match y with
 |.non=>.ok (.bl (kE x)) h
 |.bl b=>match x with
  |.bl a=>.ok (.bl (a == b)) h
  |_=>.bad
 |_=>.bad
def vX:PV->PV->PH->Rs PV:=λx y h=>match y with
 |.non=>.ok (.bl (!kE x)) h
 |.bl b=>match x with
  |.bl a=>.ok (.bl (!(a == b))) h
  |_=>.bad
 |_=>.bad
theorem RV.isNon{φ:List Addr}{H:Hp}{p:PV}{v:V}(r:RV C φ H p v):decide (v=.non)=kE p:=by
 cases p with
 |non=>cases r;rfl
 |tup xs=>obtain⟨a,vs,rfl,_⟩:=r;rfl
 |ref n=>obtain⟨a,rfl,_⟩:=r;rfl
 |fl xs=>obtain⟨a,vs,rfl,_⟩:=r;rfl
 |_=>cases r;rfl
theorem VJ:OpS C k X (c9 .Is) vIs:=λc=>(SU.or (λpins s σ H x y v u Q I rx ry(h:∃a b,x=.bl a/\y=.bl b/\Q (.bl (a == b)) H)=>by
  obtain⟨a,b,rfl,rfl,q⟩:=h;cases rx;cases ry;exact PyProof.Rows.is_bool ⟨.bl _,H,I,rfl,q⟩)).imp λx y H Q h=>by
 obtain⟨φ,h,p,q,rh,rx,ry,po⟩:=h;unfold vIs at po;cases q with
 |non=>
  cases ry
  refine .inl ⟨rfl,?_⟩;rw[rx.isNon];exact po.val rh rfl
 |bl b=>
  cases p with
  |bl a=>cases rx;cases ry;exact .inr ⟨a,b,rfl,rfl,po.val rh rfl⟩
  |_=>exact po.elim
 |_=>exact po.elim
theorem Pw:OpS C k X (c9 .IsNot) vX:=λc=>(P3.or (λpins s σ H x y v u Q I rx ry(h:∃a b,x=.bl a/\y=.bl b/\Q (.bl (!(a == b))) H)=>by
  obtain⟨a,b,rfl,rfl,q⟩:=h;cases rx;cases ry;exact PyProof.Rows.isnot_bool ⟨.bl _,H,I,rfl,q⟩)).imp λx y H Q h=>by
 obtain⟨φ,h,p,q,rh,rx,ry,po⟩:=h;unfold vX at po;cases q with
 |non=>
  cases ry
  refine .inl ⟨rfl,?_⟩;rw[rx.isNon];exact po.val rh rfl
 |bl b=>
  cases p with
  |bl a=>cases rx;cases ry;exact .inr ⟨a,b,rfl,rfl,po.val rh rfl⟩
  |_=>exact po.elim
 |_=>exact po.elim
def tru(x:PV)(h:PH):Rs Bool:=match x with
 |.non=>.ok false h
 |.bl b=>.ok b h
 |.int i=>.ok (i != 0) h
 |.str y=>if y.length<=aw then .ok ((y.length:Int) != 0) h else .bad
 |.tup xs=>.ok (!xs.isEmpty) h
 |.ref n=>match aN h n with
  |some xs=>.ok (!xs.isEmpty) h
  |none=>match h[n]? with
   |some (.dK kvs)=>.ok (!kvs.isEmpty) h
   |_=>.bad
 |.fl xs=>.ok (!xs.isEmpty) h
 |.ty _=>.bad
theorem RVs.isEmpty{φ:List Addr}{H:Hp}{xs:List PV}{vs:List V}(r:RVs C φ H xs vs):(!vs.isEmpty)=!xs.isEmpty:=by
 cases xs <;> cases vs <;> first|rfl|exact r.elim
theorem bW.ite{φ:List Addr}{H:Hp}{c:Prop}[Decidable c]{r:Rs Bool}{Q:Bool->Hp->Prop}(h:bW C φ H (if c then r else .bad) Q):c/\bW C φ H r Q:=by
 by_cases hc:c
 ·rw[if_pos hc]at h;exact⟨hc,h⟩
 ·rw[if_neg hc]at h;exact h.elim
theorem bW.val{φ:List Addr}{H:Hp}{b:Bool}{h:PH}{Q:Bool->Hp->Prop}(q:bW C φ H (.ok b h) Q)(rh:RH C φ H h):Q b H:=q φ H az (Kp.refl H) rh
theorem Je{φ:List Addr}{H:Hp}{h:PH}{p:PV}{v:V}{Q:Bool->Hp->Prop}(rh:RH C φ H h)(rv:RV C φ H p v)(po:bW C φ H (tru p h) Q):∃b,EW C.K v H b/\Q b H:=by
 unfold tru at po;cases p with
 |non=>cases rv;exact⟨_,rfl,po.val rh⟩
 |bl b=>cases rv;exact⟨_,rfl,po.val rh⟩
 |int i=>cases rv;exact⟨_,rfl,po.val rh⟩
 |str y=>cases rv;exact⟨_,⟨po.ite.1,rfl⟩,po.ite.2.val rh⟩
 |tup xs=>
  obtain⟨a,vs,rfl,sa,ra⟩:=rv;exact⟨_,.inr (.inl ⟨vs,sa,rfl⟩),by rw[ra.isEmpty];exact po.val rh⟩
 |ref n=>
  obtain⟨a,rfl,ha⟩:=rv;dsimp only at po;cases e:aN h n with
  |some xs=>
   rw[e]at po;obtain⟨a2,vs,ha2,sa,ra⟩:=bJ rh e;rw[ha]at ha2;cases ha2;exact⟨_,.inl ⟨vs,sa,rfl⟩,by rw[ra.isEmpty];exact po.val rh⟩
  |none=>
   rw[e]at po;dsimp only at po;split at po
   ·rename_i kvs hk;obtain⟨ks,hH,rk⟩:=rh.at' n a _ ha hk;refine⟨_,.inr (.inr ⟨ks,hH,rfl⟩),?_⟩;have:(!ks.isEmpty)=!kvs.isEmpty:=by cases rk <;> rfl
    rw[this];exact po.val rh
   ·exact po.elim
 |fl xs=>
  obtain⟨a,vs,rfl,sa,ra⟩:=rv;exact⟨_,.inl ⟨vs,sa.sq,rfl⟩,by rw[ra.isEmpty];exact po.val rh⟩
 |ty n=>exact po.elim
end L2
namespace L2
open PySem PySem.Spec PyProof.Rows
variable{C:MC}{k:Nat}{X:Cx}
def bQ(m:Me):Ev->PH->Rs Bool:=λδ h=>(m δ h).bind tru
theorem Fo{m:Me}{σ:St}{H:Hp}{Q:Bool->Hp->Prop}(h:rdB C (bQ m) σ H Q):rd C m σ H λv H1=>∃b,EW C.K v H1 b/\Q b H1:=by
 obtain⟨φ,δ,h,rh,re,p⟩:=h;refine⟨φ,δ,h,rh,re,(post.bindB p).imp ?_⟩;rintro v H1 ⟨φ1,x,h1,p1,t1,rh1,rv1,q1⟩;exact Je rh1 rv1 q1
section
variable{a b e c':Expr}{ma mb mc m:Me}{g g':PV->PV->PH->Rs PV}{pos:Pos}{ta tb:Ev->PH->Rs Bool}
theorem LL(h:SE C k X e m)(he:∀whole,isTrue e X.env whole=(do let v <-whole;standAt e.pos;holding [v] (truthy v)):=by intro _;rfl):ST C k X e (bQ m):=λc=>
 (La (h c) he).imp λσ H Q q=>by rw[c.K];exact Fo q
theorem bV{op:CmpOp}(ho:OpS C k X (c9 op) g)(ha:SE C k X a ma)(hb:SE C k X b mb)(hm:behindInMarks op b=false:=by first|exact L6 _|rfl):ST C k X (.Compare a [op] [b] pos) (bQ (aD g ma mb)):=λc=>by
 intro pins s σ H Q I h;have h:=Hu (Fo h);refine wpAny_isTrue_Compare1 (thn (ha c pins s σ H _ I h) λv s1 ⟨x,H1,I1,r1,q1⟩=>thn (hb c pins s1 σ H1 _ I1 q1) λu s2 ⟨y,H2,I2,r2,q2⟩=>
  thn (ho c pins s2 σ H2 x y v u _ I2 r1 r2 q2) λw s3 ⟨z,H3,I3,r3,q3⟩=>?_) hm
 rw[<-c.K]at q3;exact L9 pins s3 σ H3 z w Q I3 r3 q3
def LM(z:PV)(h:PH):Rs PV:=match z with
 |.bl b=>.ok (.bl b) h
 |_=>.bad
def LN(g g':PV->PV->PH->Rs PV)(ma mb mc:Me):Me:=λδ h=>(ma δ h).bind λx h1=>(mb δ h1).bind λy h2=>(g x y h2).bind λz h3=>match z with
 |.bl true=>(mc δ h3).bind λw h4=>(g' y w h4).bind LM
 |.bl false=>.ok (.bl false) h3
 |_=>.bad
theorem Tu{σ:St}{H:Hp}{Q:VK}(h:rd C (LN g g' ma mb mc) σ H Q):L7 (r2 C g) (r2 C g') (rd C ma) (rd C mb) (rd C mc) σ H λv H1=>∃b,v=.bl b/\Q v H1:=by
 obtain⟨φ,δ,h,rh,re,p⟩:=h;refine⟨φ,δ,h,rh,re,(post.bind p).imp ?_⟩;rintro v H1 ⟨φ1,x,h1,p1,t1,rh1,rv1,q1⟩;refine⟨φ1,δ,h1,rh1,re.mono p1 t1,(post.bind q1).imp ?_⟩;rintro u H2 ⟨φ2,y,h2,p2,t2,rh2,rv2,q2⟩;refine⟨φ2,h2,x,y,rh2,rv1.mono p2 t2,rv2,(post.bind q2).imp ?_⟩;rintro w H3 ⟨φ3,z,h3,p3,t3,rh3,rv3,q3⟩;cases z with
 |bl b=>
  cases rv3
  refine⟨b,rfl,?_⟩;cases b with
  |false=>exact CN ⟨false,rfl,q3.val rh3 rfl⟩
  |true=>
   refine CO ⟨φ3,δ,h3,rh3,re.mono ((p1.trans p2).trans p3) ((t1.trans t2).trans t3),(post.bind q3).imp ?_⟩;rintro w4 H4 ⟨φ4,z4,h4,p4,t4,rh4,rv4,q4⟩;refine⟨φ4,h4,y,z4,rh4,rv2.mono (p3.trans p4) (t3.trans t4),rv4,(post.bind q4).imp ?_⟩;rintro w5 H5 ⟨φ5,z5,h5,p5,t5,rh5,rv5,q5⟩;cases z5 with
   |bl b=>cases rv5;exact⟨b,rfl,q5.val rh5 rfl⟩
   |_=>exact q5.elim
 |_=>exact q3.elim
theorem VL{op op':CmpOp}(ho:OpS C k X (c9 op) g)(ho':OpS C k X (c9 op') g')(ha:SE C k X a ma)(hb:SE C k X b mb)(hc:SE C k X c' mc)(hm:lastMarks [op,op'] [b,c']=false:=by with_unfolding_all rfl):
  ST C k X (.Compare a [op,op'] [b,c'] pos) (bQ (LN g g' ma mb mc)):=λc=>by
 intro pins s σ H Q I h;have h':=Tu (Fo h);refine ix (L8 (ho c) (ho' c) (ha c) (hb c) (hc c) hm pins s σ H (λb H1=>∃b',EW C.K (.bl b) H1 b'/\Q b' H1) I ?_) (λb s1 ⟨H1,I1,b',(e:b'=b),q⟩=>⟨H1,I1,by rw[<-e];exact q⟩) λ_ _ z=>z;obtain⟨φ,δ,hh,rh,re,p⟩:=h';refine⟨φ,δ,hh,rh,re,p.imp ?_⟩;rintro v H1 ⟨φ1,δ1,h1,rh1,re1,p1⟩;refine⟨φ1,δ1,h1,rh1,re1,p1.imp ?_⟩;rintro u H2 ⟨φ2,h2,x,y,rh2,rx,ry,p2⟩;refine⟨φ2,h2,x,y,rh2,rx,ry,p2.imp ?_⟩;rintro w H3 ⟨b,e,p3⟩;refine⟨b,e,?_⟩;cases b with
 |false=>
  have:∃b,V.bl false=V.bl b/\∃b_1,EW C.K (V.bl false) H3 b_1/\Q b_1 H3:=by simpa using p3
  obtain⟨b,e1,q⟩:=this;exact CN ⟨false,rfl,q⟩
 |true=>
  have p3:rd C mc σ H3 λw' H4=>r2 C g' u w' H4 λv H1=>∃b,v=V.bl b/\∃b_1,EW C.K v H1 b_1/\Q b_1 H1:=by simpa using p3
  obtain⟨φ3,δ3,h3,rh3,re3,p3⟩:=p3;refine CO ⟨φ3,δ3,h3,rh3,re3,p3.imp ?_⟩;rintro w4 H4 ⟨φ4,h4,x4,y4,rh4,rx4,ry4,p4⟩;refine⟨φ4,h4,x4,y4,rh4,rx4,ry4,p4.imp ?_⟩;rintro w5 H5 ⟨b,rfl,q⟩;exact⟨b,rfl,q⟩
def Hy(t:Ev->PH->Rs Bool):Ev->PH->Rs Bool:=λδ h=>(t δ h).bind λb h1=>.ok (!b) h1
def Ab(ta tb:Ev->PH->Rs Bool):Ev->PH->Rs Bool:=λδ h=>(ta δ h).bind λb h1=>match b with
 |true=>tb δ h1
 |false=>.ok false h1
def LO(ta tb:Ev->PH->Rs Bool):Ev->PH->Rs Bool:=λδ h=>(ta δ h).bind λb h1=>match b with
 |true=>.ok true h1
 |false=>tb δ h1
theorem bW.imp{φ:List Addr}{H:Hp}{r:Rs Bool}{Q Q':Bool->Hp->Prop}(h:bW C φ H r Q)(i:∀v H',Q v H'->Q' v H'):bW C φ H r Q':=by
 cases r with
 |ok a h'=>exact λφ' H' p t rh=>i a H' (h φ' H' p t rh)
 |exc a h'=>exact h
 |bad=>exact h
theorem S7(h:ST C k X e ta):ST C k X (.UnaryOp .Not e pos) (Hy ta):=λc=>(Sx (h c)).imp λσ H Q q=>by
 obtain⟨φ,δ,h,rh,re,p⟩:=q;refine⟨φ,δ,h,rh,re,(bW.bindB p).imp ?_⟩;rintro b H1 ⟨φ1,h1,p1,t1,rh1,q1⟩;exact q1.val rh1
def SW(C:MC)(k:Nat)(X:Cx)(e:Expr)(m:Ev->PH->Rs Bool):Prop:=Cxt C k X->PW X e (rdB C m)
theorem SW.t(h:SW C k X e ta):ST C k X e ta:=λc=>(h c).pt
theorem PW.imp{t t':TT}(h:PW X e t)(i:∀σ H Q,t' σ H Q->t σ H Q):PW X e t':=λw pins s σ H Q I q=>h w pins s σ H Q I (i σ H Q q)
theorem Fp(ha:ST C k X a ta):SW C k X (.BoolOp .And [a] pos) ta:=λc=>OW (ha c)
theorem S8(ha:ST C k X a ta):SW C k X (.BoolOp .Or [a] pos) ta:=λc=>Sv (ha c)
theorem w_and{rest:List Expr}(ha:ST C k X a ta)(hb:SW C k X (.BoolOp .And (b::rest) pos) tb):SW C k X (.BoolOp .And (a::b::rest) pos) (Ab ta tb):=λc=>PW.imp (Sw (ha c) (hb c)) λσ H Q q=>by
 obtain⟨φ,δ,h,rh,re,p⟩:=q;refine⟨φ,δ,h,rh,re,(bW.bindB p).imp ?_⟩;rintro b H1 ⟨φ1,h1,p1,t1,rh1,q1⟩;cases b with
 |true=>exact CO ⟨φ1,δ,h1,rh1,re.mono p1 t1,q1⟩
 |false=>exact CN (q1.val rh1)
theorem w_or{rest:List Expr}(ha:ST C k X a ta)(hb:SW C k X (.BoolOp .Or (b::rest) pos) tb):SW C k X (.BoolOp .Or (a::b::rest) pos) (LO ta tb):=λc=>PW.imp (V8 (ha c) (hb c)) λσ H Q q=>by
 obtain⟨φ,δ,h,rh,re,p⟩:=q;refine⟨φ,δ,h,rh,re,(bW.bindB p).imp ?_⟩;rintro b H1 ⟨φ1,h1,p1,t1,rh1,q1⟩;cases b with
 |true=>exact CO (q1.val rh1)
 |false=>exact CN ⟨φ1,δ,h1,rh1,re.mono p1 t1,q1⟩
def Hz(ma mb:Me):Me:=λδ h=>(ma δ h).bind λx h1=>match x with
 |.bl true=>mb δ h1
 |.bl false=>.ok (.bl false) h1
 |_=>.bad
theorem VM{op}(h:SE C k X a ma):SE C k X (.BoolOp op [a] pos) ma:=λc=>Sy (h c)
theorem VN{rest:List Expr}(ha:SE C k X a ma)(hb:SE C k X (.BoolOp .And (b::rest) pos) mb):SE C k X (.BoolOp .And (a::b::rest) pos) (Hz ma mb):=λc=>(Pm (ha c) (hb c)).imp λσ H Q q=>by
 obtain⟨φ,δ,h,rh,re,p⟩:=q;refine⟨φ,δ,h,rh,re,(post.bind p).imp ?_⟩;rintro v H1 ⟨φ1,x,h1,p1,t1,rh1,rv,q1⟩;cases x with
 |bl b=>
  cases rv
  cases b with
  |true=>exact CO ⟨φ1,δ,h1,rh1,re.mono p1 t1,q1⟩
  |false=>exact CN (q1.val rh1 rfl)
 |_=>exact q1.elim
def mIf(t:Ev->PH->Rs Bool)(ma mb:Me):Me:=λδ h=>(t δ h).bind λb h1=>match b with
 |true=>ma δ h1
 |false=>mb δ h1
theorem HA(ht:ST C k X c' ta)(ha:SE C k X a ma)(hb:SE C k X b mb):SE C k X (.IfExp c' a b pos) (mIf ta ma mb):=λc=>(KY (ht c) (ha c) (hb c)).imp λσ H Q q=>by
 obtain⟨φ,δ,h,rh,re,p⟩:=q;refine⟨φ,δ,h,rh,re,(bW.bind p).imp ?_⟩;rintro b H1 ⟨φ1,h1,p1,t1,rh1,q1⟩;cases b with
 |true=>exact CO ⟨φ1,δ,h1,rh1,re.mono p1 t1,q1⟩
 |false=>exact CN ⟨φ1,δ,h1,rh1,re.mono p1 t1,q1⟩
end
theorem RVs.atI{φ:List Addr}{H:Hp}{xs:List PV}{vs:List V}{i:Int}{x:PV}(r:RVs C φ H xs vs)(e:L2.atI xs i=some x):∃v,L2.atI vs i=some v/\RV C φ H x v:=by
 unfold L2.atI at e⊢;rw[<-r.length];cases q:ixN xs.length i with
 |none=>rw[q]at e;cases e
 |some j=>
  rw[q]at e;exact r.at e
def ofO(o:Option PV)(h:PH):Rs PV:=match o with
 |some p=>.ok p h
 |none=>.bad
def vIx:PV->PV->PH->Rs PV:=λx y h=>match x with
 |.str z=>(match y with
  |.int i=>if z.length<=aw then ofO ((atI z.cps.toList i).map λc=>.str ⟨#[c]⟩) h else .bad
  |_=>.bad)
 |.tup xs=>(match y with
  |.int i=>ofO (atI xs i) h
  |_=>.bad)
 |.fl xs=>(match y with
  |.int i=>ofO (atI xs i) h
  |_=>.bad)
 |.ref n=>(match aN h n with
  |some xs=>(match y with
   |.int i=>ofO (atI xs i) h
   |_=>.bad)
  |none=>(match Br h n y with
   |some o=>ofO o h
   |none=>.bad))
 |_=>.bad
theorem post.ofO{φ:List Addr}{H:Hp}{h:PH}{o:Option PV}{Q:VK}(q:post C φ H (ofO o h) Q):∃p,o=some p/\post C φ H (.ok p h) Q:=by
 cases o with
 |none=>exact q.elim
 |some b=>exact⟨b,rfl,q⟩
theorem VO{x y:V}{H:Hp}{Q:VK}(h:r2 C vIx x y H Q):VA C.K x y H Q:=by
 obtain⟨φ,h,p,q,rh,rx,ry,po⟩:=h;unfold vIx at po;cases p with
 |str z=>
  cases rx
  cases q with
  |int i=>
   cases ry
   obtain⟨hz,po⟩:=po.ite;obtain⟨p,e,po⟩:=po.ofO;cases e':atI z.cps.toList i with
   |none=>rw[e']at e;cases e
   |some c=>rw[e']at e;cases e;exact⟨hz,c,e',po.val rh rfl⟩
  |_=>exact po.elim
 |tup xs=>
  obtain⟨a,vs,rfl,sa,ra⟩:=rx;cases q with
  |int i=>
   cases ry
   obtain⟨p,e,po⟩:=po.ofO;obtain⟨v,hv,rv⟩:=ra.atI e;exact .inl ⟨vs,i,v,rfl,.inr sa,hv,po.val rh rv⟩
  |_=>exact po.elim
 |fl xs=>
  obtain⟨a,vs,rfl,sa,ra⟩:=rx;cases q with
  |int i=>
   cases ry
   obtain⟨p,e,po⟩:=po.ofO;obtain⟨v,hv,rv⟩:=ra.atI e;exact .inl ⟨vs,i,v,rfl,.inl sa.sq,hv,po.val rh rv⟩
  |_=>exact po.elim
 |ref n=>
  obtain⟨a,rfl,ha⟩:=rx;dsimp only at po;cases e:aN h n with
  |some xs=>
   rw[e]at po;obtain⟨a2,vs,ha2,sa,ra⟩:=bJ rh e;rw[ha]at ha2;cases ha2;cases q with
   |int i=>
    cases ry
    obtain⟨p,e,po⟩:=po.ofO;obtain⟨v,hv,rv⟩:=ra.atI e;exact .inl ⟨vs,i,v,rfl,.inl sa,hv,po.val rh rv⟩
   |_=>exact po.elim
  |none=>
   rw[e]at po;dsimp only at po;cases e':Br h n q with
   |none=>rw[e']at po;exact po.elim
   |some o=>
    rw[e']at po;obtain⟨p,eo,po⟩:=po.ofO;obtain⟨o',g,_,hp⟩:=oA rh ha ry e';obtain⟨w,rfl,rw'⟩:=hp p eo;exact .inr ⟨w,g,po.val rh rw'⟩
 |_=>exact po.elim
theorem nC{prog:Program}{w:World}{A:Around}{E:Value->Shared->Prop}{s:Shared}{t sl:Addr}{items:Array Value}{vl vu:Value}{lo hi:Option Int}{Q:Value->Shared->Prop}(ht:IsTup s.heap t items)(hs:s.heap.IsSliceOf sl vl vu .none)(pl:IsPart vl lo)(pu:IsPart vu hi)
  (hw:HT.sIx items.size 0 lo=0/\HT.sIx items.size items.size hi=items.size) (h:Q (.ref t) s):wpAny (model prog w) A (getItem (.ref t) (.ref sl)) Q E s:=by
 obtain⟨os,hos,hcs,hds⟩:=id hs;have hTs:s.TypeIs (.ref sl) "slice" := ⟨os,hos,hcs⟩;unfold getItem
 try with_reducible refine c6 ?_
 first|refine aa (ae ?_)|skip
 refine aa (wpAny_sequenceKey ht.typeIs (by decide) ?_);refine aa (jc (name:=jt "__getitem__") ht.typeIs d5
  (jq d5 ht.typeIs entry_tuple_getitem ?_ (args_tuple_getitem _ _)))
 show wpAny _ _ (nq (.ref t) >>= _) _ _ s
 refine aa (tupleItemsOf_ ht ?_);refine aa (ju hTs ?_);rw[if_pos (by decide)];refine aa (HT.sliceApplied_gen hs pl pu ?_);have hno:((((HT.sIx items.size 0 lo:Nat):Int) == 0&&(1:Int) == 1&&(HT.sIx items.size items.size hi-HT.sIx items.size 0 lo) == items.size)=true):=by
  rw[hw.1,hw.2];simp
 show wpAny _ _ (if(((HT.sIx items.size 0 lo:Nat):Int) == 0&&(1:Int) == 1&&(HT.sIx items.size items.size hi-HT.sIx items.size 0 lo) == items.size)=true then _ else _) _ _ s
 rw[if_pos hno];refine aa ?_;unfold Builtin.Tuple.tupleIsExact;refine aa (ju ht.typeIs (ae ?_));rw[if_pos (by decide)];refine aa (j9 ?_);exact ae ⟨_,rfl,ae h⟩
end L2
namespace L2
open PySem PySem.Spec PyProof.Rows
variable{C:MC}{k:Nat}{X:Cx}
def jW{α:Type}(xs:List α)(lo hi:Option Int):List α:=(xs.drop (HT.sIx xs.length 0 lo)).take (HT.sIx xs.length xs.length hi-HT.sIx xs.length 0 lo)
theorem RVs.cut{φ:List Addr}{H:Hp}{xs:List PV}{vs:List V}(r:RVs C φ H xs vs)(lo hi:Option Int):RVs C φ H (jW xs lo hi) (CM vs lo hi):=by
 unfold jW CM;rw[<-r.length];exact(r.drop _).take _
def vSl:PV->Option Int->Option Int->PH->Rs PV:=λx lo hi h=>match x with
 |.str z=>if z.length<=aw then .ok (.str (Txt.slice z lo hi)) h else .bad
 |.tup xs=>.ok (.tup (jW xs lo hi)) h
 |.ref n=>match aN h n with
  |some xs=>.ok (.ref h.length) (h++[.lst (jW xs lo hi)])
  |none=>.bad
 |.fl xs=>.ok (.ref h.length) (h++[.lst (jW xs lo hi)])
 |_=>.bad
def VP(K:ah):V->Option Int->Option Int->Hp->VK->Prop:=λx lo hi H Q=>∃a xs,x=.ref a/\SqT K H a xs/\(HT.sIx xs.length 0 lo=0/\HT.sIx xs.length xs.length hi=xs.length)/\Q (.ref a) H
theorem LP:SlR X (VP X.K):=by
 intro pins s σ H x v vl vu lo hi sl Q I rx hs pl pu h;obtain⟨a,xs,rfl,hx,hw,q⟩:=h;cases rx
 obtain⟨its,r,ht,hz⟩:=I.tuple hx;have hlen:its.toArray.size=xs.length:=by rw[ar];exact r.length.symm
 refine⟨"tuple",_,d5.lookup,ht.typeIs,?_⟩;exact nC ht hs pl pu (by rw[hlen];exact hw) ⟨.ref a,H,I,rfl,q⟩
theorem SlR.imp{r r':V->Option Int->Option Int->Hp->VK->Prop}(h:SlR X r)(i:∀x lo hi H Q,r' x lo hi H Q->r x lo hi H Q):SlR X r':=λpins s σ H x v vl vu lo hi sl Q I rx hs pl pu q=>h pins s σ H x v vl vu lo hi sl Q I rx hs pl pu (i x lo hi H Q q)
def r3(C:MC)(g:PV->Option Int->Option Int->PH->Rs PV):V->Option Int->Option Int->Hp->VK->Prop:=λx lo hi H Q=>∃φ h p,RH C φ H h/\RV C φ H p x/\post C φ H (g p lo hi h) Q
theorem Tv(hK:X.K=C.K):SlR X (r3 C vSl):=by
 have e:SlR X (λx lo hi H Q=>Vx x lo hi H Q\/Vm C.K x lo hi H Q\/Vp C.K x lo hi H Q\/VP C.K x lo hi H Q):=by rw[<-hK];exact Td.or (T2.or (Pa.or LP))
 refine e.imp λx lo hi H Q h=>?_;obtain⟨φ,h,p,rh,rv,po⟩:=h;unfold vSl at po;cases p with
 |str z=>cases rv;exact .inl ⟨z,rfl,po.ite.1,po.ite.2.val rh rfl⟩
 |tup xs=>
  obtain⟨a,vs,rfl,sa,ra⟩:=rv
  by_cases hw:HT.sIx vs.length 0 lo=0/\HT.sIx vs.length vs.length hi=vs.length
  ·refine .inr (.inr (.inr ⟨a,vs,rfl,sa,hw,po.val rh ⟨a,vs,rfl,sa,?_⟩⟩));have e:jW xs lo hi=xs:=by
    unfold jW;rw[ra.length,hw.1,hw.2,List.drop_zero,Nat.sub_zero,<-ra.length,ja]
   rw[e];exact ra
  ·exact .inr (.inl ⟨a,vs,rfl,sa,hw,λp hp=>po.tnew rh (ra.cut lo hi) hp⟩)
 |ref n=>
  obtain⟨a,rfl,ha⟩:=rv;dsimp only at po;cases e:aN h n with
  |none=>rw[e]at po;exact po.elim
  |some xs=>
   rw[e]at po;obtain⟨a2,vs,ha2,sa,ra⟩:=bJ rh e;rw[ha]at ha2;cases ha2;exact .inr (.inr (.inl ⟨a,vs,rfl,sa,λp hp=>po.lnew rh (ra.cut lo hi) hp⟩))
 |fl xs=>
  obtain⟨a,vs,rfl,sa,ra⟩:=rv;exact .inr (.inr (.inl ⟨a,vs,rfl,sa.sq,λp hp=>po.lnew rh (ra.cut lo hi) hp⟩))
 |_=>exact po.elim
abbrev Mo:=Ev->PH->Rs (Option Int)
def tV(C:MC)(φ:List Addr)(H:Hp)(r:Rs (Option Int))(Q:Option Int->Hp->Prop):Prop:=match r with
 |.ok b h=>∀φ' H',φ<+:φ'->Kp H H'->RH C φ' H' h->Q b H'
 |.exc x h=>∀φ' H',φ<+:φ'->Kp H H'->RH C φ' H' h->C.ex φ' H' x
 |.bad=>False
def rdO(C:MC)(m:Mo):TO:=λσ H Q=>∃φ δ h,RH C φ H h/\RE C φ H δ σ/\tV C φ H (m δ h) Q
def SO(C:MC)(k:Nat)(X:Cx)(e:Option Expr)(m:Mo):Prop:=Cxt C k X->PO X e (rdO C m)
def D7:Mo:=λ_ h=>.ok none h
def mP(m:Me):Mo:=λδ h=>(m δ h).bind λx h1=>match x with
 |.int i=>.ok (some i) h1
 |_=>.bad
theorem LQ:SO C k X none D7:=λc pins s σ H Q I h=>by
 obtain⟨φ,δ,h,rh,re,p⟩:=h;exact P7 pins s σ H Q I (p φ H az (Kp.refl H) rh)
theorem Bs{e:Expr}{m:Me}(h:SE C k X e m):SO C k X (some e) (mP m):=λc pins s σ H Q I q=>by
 refine Ln (h c) pins s σ H Q I ?_;obtain⟨φ,δ,h,rh,re,p⟩:=q;refine⟨φ,δ,h,rh,re,?_⟩;unfold mP at p;cases e':m δ h with
 |ok x h1=>
  rw[e']at p;intro φ' v H' p' t' rh' rv';cases x with
  |int i=>cases rv';exact p φ' H' p' t' rh'
  |_=>exact p.elim
 |exc x h1=>rw[e']at p;exact p
 |bad=>rw[e']at p;exact p
def mSl(me:Me)(ml mh:Mo):Me:=λδ h=>(me δ h).bind λx h1=>(ml δ h1).bind λl h2=>(mh δ h2).bind λu h3=>vSl x l u h3
theorem tV.bind{φ:List Addr}{H:Hp}{r:Rs (Option Int)}{f:Option Int->PH->Rs PV}{Q:VK}(h:post C φ H (r.bind f) Q):tV C φ H r λb H1=>∃φ1 h1,φ<+:φ1/\Kp H H1/\RH C φ1 H1 h1/\post C φ1 H1 (f b h1) Q:=by
 cases r with
 |ok a h'=>exact λφ' H' p t rh=>⟨φ',h',p,t,rh,post.weak p t h⟩
 |exc a h'=>exact h
 |bad=>exact h
theorem tV.imp{φ:List Addr}{H:Hp}{r:Rs (Option Int)}{Q Q':Option Int->Hp->Prop}(h:tV C φ H r Q)(i:∀v H',Q v H'->Q' v H'):tV C φ H r Q':=by
 cases r with
 |ok a h'=>exact λφ' H' p t rh=>i a H' (h φ' H' p t rh)
 |exc a h'=>exact h
 |bad=>exact h
theorem Tw{e:Expr}{lo hi:Option Expr}{me:Me}{ml mh:Mo}{p2 pos:Pos}(he:SE C k X e me)(hl:SO C k X lo ml)(hh:SO C k X hi mh):SE C k X (.Subscript e (.Slice lo hi none p2) pos) (mSl me ml mh):=λc=>
 (Le (Tv c.K) (he c) (hl c) (hh c)).imp λσ H Q h=>by
  obtain⟨φ,δ,h,rh,re,p⟩:=h;refine⟨φ,δ,h,rh,re,(post.bind p).imp ?_⟩;rintro v H1 ⟨φ1,x,h1,p1,t1,rh1,rv1,q1⟩;refine⟨φ1,δ,h1,rh1,re.mono p1 t1,(tV.bind q1).imp ?_⟩;rintro l H2 ⟨φ2,h2,p2,t2,rh2,q2⟩;refine⟨φ2,δ,h2,rh2,re.mono (p1.trans p2) (t1.trans t2),(tV.bind q2).imp ?_⟩;rintro u H3 ⟨φ3,h3,p3,t3,rh3,q3⟩;exact⟨φ3,h3,x,rh3,rv1.mono (p2.trans p3) (t2.trans t3),q3⟩
abbrev Ma:=Ev->PH->Rs (List PV)
def aI:Ma:=λ_ h=>.ok [] h
def aB(m:Me)(ms:Ma):Ma:=λδ h=>(m δ h).bind λx h1=>(ms δ h1).bind λxs h2=>.ok (x::xs) h2
theorem PA.imp{es:List Expr}{t t':TA}(h:PA X es t)(i:∀σ H Q,t' σ H Q->t σ H Q):PA X es t':=λpos pins s σ H Q I q=>h pos pins s σ H Q I (i σ H Q q)
theorem aH:SA C k X [] aI:=λc=>rE.imp λσ H Q h=>by
 obtain⟨φ,δ,h,rh,re,p⟩:=h;exact p φ [] H az (Kp.refl H) rh trivial
theorem postA.imp{φ:List Addr}{H:Hp}{r:Rs (List PV)}{Q Q':List V->Hp->Prop}(h:postA C φ H r Q)(i:∀v H',Q v H'->Q' v H'):postA C φ H r Q':=by
 cases r with
 |ok a h'=>exact λφ' v H' p t rh rv=>i v H' (h φ' v H' p t rh rv)
 |exc a h'=>exact h
 |bad=>exact h
theorem aC{e:Expr}{es:List Expr}{m:Me}{ms:Ma}(he:SE C k X e m)(hs:SA C k X es ms)(hh:bu (e::es) X.env=(false,eval e X.env)::bu es X.env:=by rfl):SA C k X (e::es) (aB m ms):=λc=>(lY (he c) (hs c) hh).imp λσ H Q h=>by
 obtain⟨φ,δ,h,rh,re,p⟩:=h;refine⟨φ,δ,h,rh,re,(post.bindA p).imp ?_⟩;rintro v H1 ⟨φ1,x,h1,p1,t1,rh1,rv1,q1⟩;refine⟨φ1,δ,h1,rh1,re.mono p1 t1,(postA.bindA q1).imp ?_⟩;rintro vs H2 ⟨φ2,xs,h2,p2,t2,rh2,rv2,q2⟩;exact q2 φ2 (v::vs) H2 az (Kp.refl H2) rh2 ⟨rv1.mono p2 t2,rv2⟩
def jC(ms:Ma):Me:=λδ h=>(ms δ h).bind λxs h1=>if xs.length<=aw then .ok (.tup xs) h1 else .bad
def pI(ms:Ma):Me:=λδ h=>(ms δ h).bind λxs h1=>if xs.length<=aw then .ok (.ref h1.length) (h1++[.lst xs]) else .bad
theorem kF{es:List Expr}{ms:Ma}{x1}{pos:Pos}(hs:SA C k X es ms):SE C k X (.Tuple es x1 pos) (jC ms):=λc=>(SX (hs c)).imp λσ H Q h=>by
 obtain⟨φ,δ,h,rh,re,p⟩:=h;refine⟨φ,δ,h,rh,re,(postA.bind p).imp ?_⟩;rintro vs H1 ⟨φ1,xs,h1,p1,t1,rh1,rv1,q1⟩;exact⟨by rw[<-rv1.length];exact q1.ite.1,λp hp=>q1.ite.2.tnew rh1 rv1 hp⟩
theorem nL{es:List Expr}{ms:Ma}{pos:Pos}(hs:SA C k X es ms):SE C k X (.List es pos) (pI ms):=λc=>(SY (hs c)).imp λσ H Q h=>by
 obtain⟨φ,δ,h,rh,re,p⟩:=h;refine⟨φ,δ,h,rh,re,(postA.bind p).imp ?_⟩;rintro vs H1 ⟨φ1,xs,h1,p1,t1,rh1,rv1,q1⟩;exact⟨by rw[<-rv1.length];exact q1.ite.1,λp hp=>q1.ite.2.lnew rh1 rv1 hp⟩
def rY:Me:=λ_ h=>.ok (.ref h.length) (h++[.dK []])
theorem uU{pos:Pos}:SE C k X (.Dict [] [] pos) rY:=λc=>Lj.imp λσ H Q h=>by
 obtain⟨φ,δ,h,rh,re,p⟩:=h;intro a ha;exact p (φ++[a]) (.ref a) _ (c8 _ _) (Kp.new ha) (rh.new ha ⟨[],bF,.nil⟩) ⟨a,rfl,by rw[<-rh.len];simp⟩
def mCB(g:List PV->PH->Rs PV)(ms:Ma):Me:=λδ h=>(ms δ h).bind g
theorem S9{g:List PV->PH->Rs PV}{ms:Ma}{σ:St}{H:Hp}{Q:VK}(h:rd C (mCB g ms) σ H Q):tCB (rL C g) (rdA C ms) σ H Q:=by
 obtain⟨φ,δ,h,rh,re,p⟩:=h;refine⟨φ,δ,h,rh,re,(postA.bind p).imp ?_⟩;rintro vs H1 ⟨φ1,xs,h1,p1,t1,rh1,rv1,q1⟩;exact⟨φ1,h1,xs,rh1,rv1,q1⟩
section
variable{x:Str}{p pos:Pos}{e:Expr}{es:List Expr}{ms:Ma}{id T:String}{g:List PV->PH->Rs PV}
theorem bS(hc:gU C k X (.builtin id) g)(hv:og x=some (.builtin id))(ha:SA C k X (e::es) ms)(hb:x∈C.bs:=by decide)(hg:Gl X x:=by rfl)(hn:x≠"__name__" := by decide)(hdb:(x == ("__debug__" : Str))=false:=by decide)
  (he:bu (e::es) X.env=(false,eval e X.env)::bu es X.env:=by rfl) (hpl:(backTo pos (bu es X.env)).any (·.1)=false:=by rfl):SE C k X (.Call (.Name x p) (e::es) [] pos) (mCB g ms):=λc=>
 (CL (hc c) hg (c.bn x hb) hv (ha c) hn hdb he hpl).imp λσ H Q h=>S9 h
theorem pJ(hc:gU C k X (.type T) g)(hv:og x=some (.type T))(ha:SA C k X (e::es) ms)(hb:x∈C.bs:=by decide)(hg:Gl X x:=by rfl)(hn:x≠"__name__" := by decide)(hdb:(x == ("__debug__" : Str))=false:=by decide)
  (he:bu (e::es) X.env=(false,eval e X.env)::bu es X.env:=by rfl) (hpl:(backTo pos (bu es X.env)).any (·.1)=false:=by rfl):SE C k X (.Call (.Name x p) (e::es) [] pos) (mCB g ms):=λc=>
 (zT (hc c) hg (c.bn x hb) hv (ha c) hn hdb he hpl).imp λσ H Q h=>S9 h
def spM(C:MC)(n:Nat)(f:Fn):Sp:=λvs H Q _=>∃φ h ps,RH C φ H h/\RVs C φ H ps vs/\ps.length=n/\post C φ H (f ps h) Q
def aY(n:Nat)(f:Fn)(ms:Ma):Me:=λδ h=>(ms δ h).bind λps h1=>if ps.length=n then f ps h1 else .bad
theorem s_call{st:Stmt}{a:Addr}{fd:c5}{ps:List Str}{j n:Nat}{f:Fn}(D:Def C.K X.mg x st a fd ps)(G:aV X.prog X.w C.K X.mg X.base CX0 j a fd ps (spM C n f))(ha:SA C k X (e::es) ms)(hj:j<=k:=by decide)
  (hg:Gl X x:=by rfl) (hdb:(x == ("__debug__" : Str))=false:=by decide) (he:bu (e::es) X.env=(false,eval e X.env)::bu es X.env:=by rfl) (hpl:(backTo pos (bu es X.env)).any (·.1)=false:=by rfl):
  SE C k X (.Call (.Name x p) (e::es) [] pos) (aY n f ms):=λc=>by
 have e1:=c.K;have D':Def X.K X.mg x st a fd ps:=by rw[e1];exact D
 have G':aV X.prog X.w X.K X.mg X.base CX0 j a fd ps (spM C n f):=by rw[e1];exact G
 refine(VF D' G' (c.room.mono hj) (ha c) hg hdb he hpl).imp λσ H Q h=>?_;obtain⟨φ,δ,h,rh,re,p⟩:=h;refine⟨φ,δ,h,rh,re,(postA.bind p).imp ?_⟩;rintro vs H1 ⟨φ1,xs,h1,p1,t1,rh1,rv1,q1⟩;refine⟨φ1,h1,xs,rh1,by rw[oj];exact rv1,q1.ite.1,q1.ite.2⟩
end
def gF:List PV->PH->Rs PV:=λxs h=>match xs with
 |[.str y]=>if y.length<=aw then .ok (.int y.length) h else .bad
 |[.tup ys]=>.ok (.int ys.length) h
 |[.fl ys]=>.ok (.int ys.length) h
 |[.ref n]=>match aN h n with
  |some ys=>.ok (.int ys.length) h
  |none=>match h[n]? with
   |some (.dK kvs)=>.ok (.int kvs.length) h
   |_=>.bad
 |_=>.bad
theorem RVs.one{φ:List Addr}{H:Hp}{x:PV}{vs:List V}(r:RVs C φ H [x] vs):∃v,vs=[v]/\RV C φ H x v:=by
 match vs,r with
 |[v],⟨h,_⟩=>exact⟨v,rfl,h⟩
 |[],h=>exact h.elim
 |_::_::_,⟨_,h⟩=>exact h.elim
theorem RVs.two{φ:List Addr}{H:Hp}{x y:PV}{vs:List V}(r:RVs C φ H [x,y] vs):∃v w,vs=[v,w]/\RV C φ H x v/\RV C φ H y w:=by
 match vs,r with
 |[v,w],⟨h,h',_⟩=>exact⟨v,w,rfl,h,h'⟩
 |[],h=>exact h.elim
 |[_],⟨_,h⟩=>exact h.elim
 |_::_::_::_,⟨_,_,h⟩=>exact h.elim
theorem kG:gU C k X (.builtin "len") gF:=λc=>(J3 C.K c.K).imp λvs H Q h=>by
 obtain⟨φ,h,ps,rh,rv,po⟩:=h;unfold gF at po;split at po
 ·obtain⟨v,rfl,rx⟩:=rv.one;cases rx
  exact⟨po.ite.1,po.ite.2.val rh rfl⟩
 ·obtain⟨v,rfl,rx⟩:=rv.one;obtain⟨a,vs,rfl,sa,ra⟩:=rx;exact .inl ⟨vs,.inr sa,by rw[<-ra.length];exact po.val rh rfl⟩
 ·obtain⟨v,rfl,rx⟩:=rv.one;obtain⟨a,vs,rfl,sa,ra⟩:=rx;exact .inl ⟨vs,.inl sa.sq,by rw[<-ra.length];exact po.val rh rfl⟩
 ·rename_i n;obtain⟨v,rfl,rx⟩:=rv.one;obtain⟨a,rfl,ha⟩:=rx;split at po
  ·rename_i ys e;obtain⟨a2,vs,ha2,sa,ra⟩:=bJ rh e;rw[ha]at ha2;cases ha2;exact .inl ⟨vs,.inl sa,by rw[<-ra.length];exact po.val rh rfl⟩
  ·split at po
   ·rename_i kvs hk;obtain⟨ks,hH,rk⟩:=rh.at' n a _ ha hk;refine .inr ⟨ks,hH,?_⟩;have:ks.length=kvs.length:=(fj rk).symm;rw[this];exact po.val rh rfl
   ·exact po.elim
 ·exact po.elim
def rZ:List PV->PH->Rs PV:=λxs h=>match xs with
 |[.tup ys]=>.ok (.tup ys) h
 |[.fl ys]=>.ok (.tup ys) h
 |[.ref n]=>match aN h n with
  |some ys=>.ok (.tup ys) h
  |none=>.bad
 |_=>.bad
theorem HB:gU C k X (.type "tuple") rZ:=λc=>(CT C.K c.K).imp λvs H Q h=>by
 obtain⟨φ,h,ps,rh,rv,po⟩:=h;unfold rZ at po;split at po
 ·obtain⟨v,rfl,rx⟩:=rv.one;obtain⟨a,vs,rfl,sa,ra⟩:=rx;exact⟨a,vs,rfl,.inr ⟨sa,po.val rh ⟨a,vs,rfl,sa,ra⟩⟩⟩
 ·obtain⟨v,rfl,rx⟩:=rv.one;obtain⟨a,vs,rfl,sa,ra⟩:=rx;exact⟨a,vs,rfl,.inl ⟨sa.sq,λp hp=>po.tnew rh ra hp⟩⟩
 ·rename_i n;obtain⟨v,rfl,rx⟩:=rv.one;obtain⟨a,rfl,ha⟩:=rx;split at po
  ·rename_i ys e;obtain⟨a2,vs,ha2,sa,ra⟩:=bJ rh e;rw[ha]at ha2;cases ha2;exact⟨a,vs,rfl,.inl ⟨sa,λp hp=>po.tnew rh ra hp⟩⟩
  ·exact po.elim
 ·exact po.elim
def D8:List PV->PH->Rs PV:=λxs h=>match xs with
 |[.tup ys]=>.ok (.ref h.length) (h++[.lst ys])
 |[.fl ys]=>.ok (.ref h.length) (h++[.lst ys])
 |[.ref n]=>match aN h n with
  |some ys=>.ok (.ref h.length) (h++[.lst ys])
  |none=>.bad
 |_=>.bad
theorem Tx:gU C k X (.type "list") D8:=λc=>(F8 C.K c.K).imp λvs H Q h=>by
 obtain⟨φ,h,ps,rh,rv,po⟩:=h;unfold D8 at po;split at po
 ·obtain⟨v,rfl,rx⟩:=rv.one;obtain⟨a,vs,rfl,sa,ra⟩:=rx;exact⟨a,vs,rfl,.inr sa,λp hp=>po.lnew rh ra hp⟩
 ·obtain⟨v,rfl,rx⟩:=rv.one;obtain⟨a,vs,rfl,sa,ra⟩:=rx;exact⟨a,vs,rfl,.inl sa.sq,λp hp=>po.lnew rh ra hp⟩
 ·rename_i n;obtain⟨v,rfl,rx⟩:=rv.one;obtain⟨a,rfl,ha⟩:=rx;split at po
  ·rename_i ys e;obtain⟨a2,vs,ha2,sa,ra⟩:=bJ rh e;rw[ha]at ha2;cases ha2;exact⟨a,vs,rfl,.inl sa,λp hp=>po.lnew rh ra hp⟩
  ·exact po.elim
 ·exact po.elim
def Px:List PV->PH->Rs PV:=λxs h=>match xs with
 |[.int i,.int j]=>.ok (.int (if j>i then j else i)) h
 |_=>.bad
theorem VQ:gU C k X (.builtin "max") Px:=λc=>(J4 c.calm).imp λvs H Q h=>by
 obtain⟨φ,h,ps,rh,rv,po⟩:=h;unfold Px at po;split at po
 ·obtain⟨v,w,rfl,rx,ry⟩:=rv.two;cases rx;cases ry;exact po.val rh rfl
 ·exact po.elim
end L2
namespace L2
open PySem PySem.Spec PyProof.Rows
variable{C:MC}{k:Nat}{X:Cx}
def Rs.fl{α:Type}(r:Rs α)(f:α->PH->Fl):Fl:=match r with
 |.ok a h=>f a h
 |.exc x h=>.exc x h
 |.bad=>.bad
@[simp]theorem Rs.fl_ok{α:Type}(a:α)(h:PH)(f:α->PH->Fl):(Rs.ok a h).fl f=f a h:=(rfl)
@[simp]theorem Rs.fl_exc{α:Type}(x:PX)(h:PH)(f:α->PH->Fl):(Rs.exc x h:Rs α).fl f=.exc x h:=(rfl)
@[simp]theorem Rs.fl_bad{α:Type}(f:α->PH->Fl):(Rs.bad:Rs α).fl f=.bad:=(rfl)
section
variable{φ:List Addr}{H:Hp}
theorem post.fl{r:Rs PV}{f:PV->PH->Fl}{D:Ends}(h:cB C φ H (r.fl f) D):post C φ H r λv H1=>∃φ1 p h1,φ<+:φ1/\Kp H H1/\RH C φ1 H1 h1/\RV C φ1 H1 p v/\cB C φ1 H1 (f p h1) D:=by
 cases r with
 |ok a h'=>exact λφ' v H' p t rh rv=>⟨φ',a,h',p,t,rh,rv,cB.weak p t h⟩
 |exc a h'=>exact h
 |bad=>exact h
theorem bW.fl{r:Rs Bool}{f:Bool->PH->Fl}{D:Ends}(h:cB C φ H (r.fl f) D):bW C φ H r λb H1=>∃φ1 h1,φ<+:φ1/\Kp H H1/\RH C φ1 H1 h1/\cB C φ1 H1 (f b h1) D:=by
 cases r with
 |ok a h'=>exact λφ' H' p t rh=>⟨φ',h',p,t,rh,cB.weak p t h⟩
 |exc a h'=>exact h
 |bad=>exact h
theorem cB.nx{δ:Ev}{h:PH}{D:Ends}{σ:St}(q:cB C φ H (.nx δ h) D)(rh:RH C φ H h)(re:RE C φ H δ σ):D.nx σ H:=q φ σ H az (Kp.refl H) rh re
theorem cB.rt{p:PV}{h:PH}{D:Ends}{v:V}(q:cB C φ H (.rt p h) D)(rh:RH C φ H h)(rv:RV C φ H p v):D.rt v H:=q φ v H az (Kp.refl H) rh rv
end
abbrev Mg:=PV->Ev->Option Ev
abbrev Mgs:=List PV->Ev->Option Ev
def rdG(C:MC)(t:Mg):TG:=λv σ H Q=>∃φ δ h p δ',RH C φ H h/\RE C φ H δ σ/\RV C φ H p v/\t p δ=some δ'/\∀σ',RE C φ H δ' σ'->Q σ' H
def XJ(C:MC)(t:Mgs):TGs:=λvs σ H Q=>∃φ δ h ps δ',RH C φ H h/\RE C φ H δ σ/\RVs C φ H ps vs/\t ps δ=some δ'/\∀σ',RE C φ H δ' σ'->Q σ' H
def SG(C:MC)(k:Nat)(X:Cx)(e:Expr)(t:Mg):Prop:=Cxt C k X->PG X e (rdG C t)
def SGs(C:MC)(k:Nat)(X:Cx)(es:List Expr)(t:Mgs):Prop:=Cxt C k X->PGs X es (XJ C t)
def gN(i:Nat):Mg:=λp δ=>some (δ.set i (some p))
def gNl:Mgs:=λps δ=>match ps with
 |[]=>some δ
 |_::_=>none
def gCn(t:Mg)(u:Mgs):Mgs:=λps δ=>match ps with
 |p::r=>(t p δ).bind (u r)
 |[]=>none
def gTp(n:Nat)(u:Mgs):Mg:=λp δ=>match p with
 |.tup ps=>if ps.length=n then u ps δ else none
 |_=>none
theorem PG.imp{e:Expr}{t t':TG}(h:PG X e t)(i:∀v σ H Q,t' v σ H Q->t v σ H Q):PG X e t':=λpins s σ H v u Q I r q=>h pins s σ H v u Q I r (i v σ H Q q)
theorem PGs.imp{es:List Expr}{t t':TGs}(h:PGs X es t)(i:∀v σ H Q,t' v σ H Q->t v σ H Q):PGs X es t':=λpins s σ H v u Q I r q=>h pins s σ H v u Q I r (i v σ H Q q)
theorem aQ{i:Nat}{x:Str}{pos:Pos}(hN:X.N.Nodup)(hi:X.N[i]?=some x:=by rfl)(hx:Loc X.env.scope x:=by first|exact Or.inl rfl|exact Or.inr rfl)(hf:X.fn x=true\/X.env.scope.names.lookup x=some .local:=by first|exact .inl rfl|exact .inr rfl):SG C k X (.Name x pos) (gN i):=λc=>
 (P0 hN hi hx hf).imp λv σ H Q h=>by
  obtain⟨φ,δ,h,p,δ',rh,re,rv,e,q⟩:=h;cases e
  exact q _ (re.set rv i)
theorem vY:SGs C k X [] gNl:=λc=>P1.imp λv σ H Q h=>by
 obtain⟨φ,δ,h,ps,δ',rh,re,rv,e,q⟩:=h;cases ps with
 |nil=>
  cases e
  cases v with
  |nil=>exact⟨rfl,q σ re⟩
  |cons=>exact rv.elim
 |cons=>cases e
theorem dA{e:Expr}{es:List Expr}{t:Mg}{u:Mgs}(h1:SG C k X e t)(h2:SGs C k X es u)(hs:(jo (e::es) X.env).map (·.2)=assign e X.env::(jo es X.env).map (·.2):=by rfl):SGs C k X (e::es) (gCn t u):=λc=>
 (L1 (h1 c) (h2 c) hs).imp λvs σ H Q h=>by
  obtain⟨φ,δ,h,ps,δ',rh,re,rv,e,q⟩:=h;cases ps with
  |nil=>cases e
  |cons p r=>
   cases vs with
   |nil=>exact rv.elim
   |cons v vs=>
    obtain⟨δ1,e1,e2⟩:=Option.bind_eq_some_iff.mp (show(t p δ).bind (u r)=some δ' from e)
    exact⟨v,vs,rfl,φ,δ,h,p,δ1,rh,re,rv.1,e1,λσ' re'=>⟨φ,δ1,h,r,δ',rh,re',rv.2,e2,q⟩⟩
theorem vZ{es:List Expr}{j:Nat}{u:Mgs}{n:Nat}{pos:Pos}(h:SGs C k X es u)(hn:(jo es X.env).length=n:=by rfl)(hst:(jo es X.env).findIdx? (·.1)=none:=by rfl):SG C k X (.Tuple es j pos) (gTp n u):=λc=>
 (gT C.K c.K c.calm (h c) hn hst).imp λv σ H Q h=>by
  obtain⟨φ,δ,h,p,δ',rh,re,rv,e,q⟩:=h;cases p with
  |tup ps=>
   obtain⟨a,vs,rfl,sa,ra⟩:=rv
   by_cases hl:ps.length=n
   ·have e':u ps δ=some δ':=by
     have:(if ps.length=n then u ps δ else none)=some δ':=e;rw[if_pos hl]at this;exact this
    exact⟨a,vs,rfl,sa,by rw[<-ra.length];exact hl,φ,δ,h,ps,δ',rh,re,ra,e',q⟩
   ·have:(if ps.length=n then u ps δ else none)=some δ':=e;rw[if_neg hl]at this;cases this
  |_=>cases e
theorem PS.imp{st:Stmt}{t t':TS}(h:PS X st t)(i:∀D σ H,t' D σ H->t D σ H):PS X st t':=λpins s σ H D I q=>h pins s σ H D I (i D σ H q)
theorem PSs.imp{st:List Stmt}{t t':TS}(h:PSs X st t)(i:∀D σ H,t' D σ H->t D σ H):PSs X st t':=λpins s σ H D I q=>h pins s σ H D I (i D σ H q)
def aW(a b:Ms):Ms:=λδ h=>match a δ h with
 |.nx δ1 h1=>b δ1 h1
 |r=>r
def kH:Ms:=λδ h=>.nx δ h
def XM:Ms:=λδ h=>.bk δ h
def Tz:Ms:=λδ h=>.ct δ h
def bK(i:Nat)(m:Me):Ms:=λδ h=>(m δ h).fl λp h1=>.nx (δ.set i (some p)) h1
def Jf(m:Me)(t:Mg):Ms:=λδ h=>(m δ h).fl λp h1=>match t p δ with
 |some δ'=>.nx δ' h1
 |none=>.bad
def D9(m:Me):Ms:=λδ h=>(m δ h).fl λ_ h1=>.nx δ h1
def cA(m:Me):Ms:=λδ h=>(m δ h).fl λp h1=>.rt p h1
def VR:Ms:=λ_ h=>.rt .non h
def iI(t:Ev->PH->Rs Bool)(a b:Ms):Ms:=λδ h=>(t δ h).fl λc h1=>match c with
 |true=>a δ h1
 |false=>b δ h1
section
variable{st:Stmt}{rest:List Stmt}{a b:Ms}{e:Expr}{m:Me}{pos:Pos}
theorem dN:SSs C k X [] kH:=λc=>OX.imp λD σ H h=>by
 obtain⟨φ,δ,h,rh,re,p⟩:=h;exact p.nx rh re
theorem TB{φ:List Addr}{H:Hp}{r:Fl}{b:Ms}{D:Ends}(h:cB C φ H (match r with|.nx δ1 h1=>b δ1 h1|r=>r) D):cB C φ H r { D with nx:=rdS C b D }:=by
 cases r with
 |nx δ h'=>exact λφ' σ H' p t rh re=>⟨φ',δ,h',rh,re,cB.weak p t h⟩
 |rt p h'=>exact h
 |bk δ h'=>exact h
 |ct δ h'=>exact h
 |exc x h'=>exact h
 |bad=>exact h
theorem aF(h1:SSt C k X st a)(h2:SSs C k X rest b):SSs C k X (st::rest) (aW a b):=λc=>(KZ (h1 c) (h2 c)).imp λD σ H h=>by
 obtain⟨φ,δ,h,rh,re,p⟩:=h;exact⟨φ,δ,h,rh,re,TB p⟩
theorem aJ(h1:SSt C k X st a):SSs C k X [st] a:=λc=>OY (h1 c)
theorem VS:SSt C k X (.Continue pos) Tz:=λc=>CH.imp λD σ H h=>by
 obtain⟨φ,δ,h,rh,re,p⟩:=h;exact p φ σ H az (Kp.refl H) rh re
theorem bE{i:Nat}{x:Str}{pos':Pos}(hN:X.N.Nodup)(he:SE C k X e m)(hi:X.N[i]?=some x:=by rfl)(hx:Loc X.env.scope x:=by first|exact Or.inl rfl|exact Or.inr rfl)(hs:swapsWith e (some (.Name x pos')) pos.line X.env=pure false:=by rfl)
  (hf:X.fn x=true\/X.env.scope.names.lookup x=some .local:=by first|exact .inl rfl|exact .inr rfl):SSt C k X (.Assign [.Name x pos'] e pos) (bK i m):=λc=>(SF hN hi hx (he c) hs hf).imp λD σ H h=>by
 obtain⟨φ,δ,h,rh,re,p⟩:=h;refine⟨φ,δ,h,rh,re,(post.fl p).imp ?_⟩;rintro v H1 ⟨φ1,x,h1,p1,t1,rh1,rv1,q1⟩;exact q1.nx rh1 ((re.mono p1 t1).set rv1 i)
theorem LR{tg:Expr}{t:Mg}(he:SE C k X e m)(hg:SG C k X tg t)(hs:swapsWithSole [tg] e pos.line X.env=pure false:=by rfl)(hw:swappedStores [tg] e X.env=pure none:=by rfl)
  (h1:(jo [tg] X.env).map (·.2)=[assign tg X.env]:=by rfl):SSt C k X (.Assign [tg] e pos) (Jf m t):=λc=>(SD (he c) (hg c) hs hw h1).imp λD σ H h=>by
 obtain⟨φ,δ,h,rh,re,p⟩:=h;refine⟨φ,δ,h,rh,re,(post.fl p).imp ?_⟩;rintro v H1 ⟨φ1,x,h1,p1,t1,rh1,rv1,q1⟩;cases et:t x δ with
 |none=>rw[et]at q1;exact q1.elim
 |some δ'=>
  rw[et]at q1;exact⟨φ1,δ,h1,x,δ',rh1,re.mono p1 t1,rv1,et,λσ' re'=>q1.nx rh1 re'⟩
theorem HC(he:SE C k X e m)(hs:swapsWith e none pos.line X.env=pure false:=by rfl):SSt C k X (.Expr e pos) (D9 m):=λc=>(OZ (he c) hs).imp λD σ H h=>by
 obtain⟨φ,δ,h,rh,re,p⟩:=h;refine⟨φ,δ,h,rh,re,(post.fl p).imp ?_⟩;rintro v H1 ⟨φ1,x,h1,p1,t1,rh1,rv1,q1⟩;exact q1.nx rh1 (re.mono p1 t1)
theorem bP(he:SE C k X e m):SSt C k X (.Return (some e) pos) (cA m):=λc=>(Sz (he c)).imp λD σ H h=>by
 obtain⟨φ,δ,h,rh,re,p⟩:=h;refine⟨φ,δ,h,rh,re,(post.fl p).imp ?_⟩;rintro v H1 ⟨φ1,x,h1,p1,t1,rh1,rv1,q1⟩;exact q1.rt rh1 rv1
theorem nD{cnd:Expr}{as bs:List Stmt}{t:Ev->PH->Rs Bool}(hc:ST C k X cnd t)(ha:SSs C k X as a)(hb:SSs C k X bs b):SSt C k X (.If cnd as bs pos) (iI t a b):=λc=>(Vb (hc c) (ha c) (hb c)).imp λD σ H h=>by
 obtain⟨φ,δ,h,rh,re,p⟩:=h;refine⟨φ,δ,h,rh,re,(bW.fl p).imp ?_⟩;rintro d H1 ⟨φ1,h1,p1,t1,rh1,q1⟩;cases d with
 |true=>exact CO ⟨φ1,δ,h1,rh1,re.mono p1 t1,q1⟩
 |false=>exact CN ⟨φ1,δ,h1,rh1,re.mono p1 t1,q1⟩
end
structure Wk where
 xs:List PV
 g:PH->Bool
def Jg(C:MC)(J:It)(w:Wk)(φ0:List Addr)(H0:Hp):Prop:=∀φ H h,φ0<+:φ->Kp H0 H->RH C φ H h->w.g h=true->∀i:Nat,
 (i<w.xs.length->J.go i H/\∀x H',J.yld i H x H'->(∃p,w.xs[i]?=some p/\RV C φ H' p x)/\Kp H H'/\RH C φ H' h)/\(w.xs.length<=i->J.stop i H)
abbrev Mi:=Ev->PH->Rs Wk
def fJ(C:MC)(φ:List Addr)(H:Hp)(r:Rs Wk)(R:It->Hp->Prop):Prop:=match r with
 |.ok w h=>∀φ' H' J,φ<+:φ'->Kp H H'->RH C φ' H' h->Jg C J w φ' H'->R J H'
 |.exc x h=>∀φ' H',φ<+:φ'->Kp H H'->RH C φ' H' h->C.ex φ' H' x
 |.bad=>False
def rdI(C:MC)(m:Mi):TI:=λσ H R=>∃φ δ h,RH C φ H h/\RE C φ H δ σ/\fJ C φ H (m δ h) R
def SI(C:MC)(k:Nat)(X:Cx)(tg iter:Expr)(m:Mi):Prop:=Cxt C k X->PI X tg iter (rdI C m)
def nE(n:Nat)(xs:List PV)(h':PH):Bool:=match aN h' n with
 |some ys=>PV.beqs ys xs
 |none=>false
def ofSeq(x:PV)(h:PH):Rs Wk:=match x with
 |.tup xs=>.ok ⟨xs,λ_=>true⟩ h
 |.ref n=>match aN h n with
  |some xs=>.ok ⟨xs,nE n xs⟩ h
  |none=>.bad
 |.fl xs=>.ok ⟨xs,λ_=>true⟩ h
 |_=>.bad
def aZ(m:Me):Mi:=λδ h=>(m δ h).bind ofSeq
theorem bZ{tg iter:Expr}{m:Me}(h:SE C k X iter m):SI C k X tg iter (aZ m):=λc=>by
 intro pins s σ H R I q;obtain⟨φ,δ,hh,rh,re,p⟩:=q;have key:rd C m σ H λv H1=>∃φ1 x h1,φ<+:φ1/\Kp H H1/\RH C φ1 H1 h1/\RV C φ1 H1 x v/\fJ C φ1 H1 (ofSeq x h1) R:=by
  refine⟨φ,δ,hh,rh,re,?_⟩;unfold aZ at p;cases e:m δ hh with
  |ok x h1=>
   rw[e]at p;intro φ' v H' p' t' rh' rv';refine⟨φ',x,h1,p',t',rh',rv',?_⟩
   show fJ C φ' H' (ofSeq x h1) R
   have p0:fJ C φ H (ofSeq x h1) R:=p;cases e2:ofSeq x h1 with
   |ok w h2=>rw[e2]at p0;exact λφ2 H2 J p2 t2=>p0 φ2 H2 J (p'.trans p2) (t'.trans t2)
   |exc z h2=>rw[e2]at p0;exact λφ2 H2 p2 t2=>p0 φ2 H2 (p'.trans p2) (t'.trans t2)
   |bad=>rw[e2]at p0;exact p0
  |exc x h1=>rw[e]at p;exact p
  |bad=>rw[e]at p;exact p
 refine thn (h c pins s σ H _ I key) λv s1 hz=>?_;obtain⟨x,H1,I1,r1,φ1,x',h1,p1,t1,rh1,rv1,q1⟩:=hz;unfold ofSeq at q1;cases x' with
 |tup xs=>
  obtain⟨a,vs,rfl,sa,ra⟩:=rv1;cases r1
  rw[<-c.K]at sa;obtain⟨its,rv,p,hz⟩:=I1.tuple sa;refine wpAny_pyIter_tuple (show s1.heap.IsTuple a its.toArray from p) ?_
  refine⟨s1.heap.objs.size,[s1.heap.objs.size],_,_,H1,rfl,I1.kept (t':=s1.toks) λb o e=>ag _ e,EU a _,⟨_,a7 _ rfl,rfl,rfl⟩,λb hb=>?_,?_⟩
  ·have e:b=s1.heap.objs.size:=by simpa using hb
   subst e;exact I1.fpOk (ak _) (I1.hok.fresh (ak _))
  ·refine q1 φ1 H1 (Itt X.K a) az (Kp.refl H1) rh1 λφ2 H2 h2 p2 t2 rh2 _ i=>⟨λhi=>?_,λhi=>⟨vs,t2.sq sa,by rw[<-ra.length];exact hi⟩⟩;have hi':i<vs.length:=by rw[<-ra.length];exact hi
   refine⟨⟨vs,vs[i],t2.sq sa,by simp[hi']⟩,λx H' y=>?_⟩;obtain⟨e,y⟩:=y;subst e;obtain⟨x2,e2,r2⟩:=ra.get (y vs (t2.sq sa));exact⟨⟨x2,e2,r2.mono p2 t2⟩,Kp.refl _,rh2⟩
 |ref n=>
  obtain⟨a,rfl,ha⟩:=rv1;cases r1
  dsimp only at q1;cases e:aN h1 n with
  |none=>rw[e]at q1;exact q1.elim
  |some xs=>
   rw[e]at q1;obtain⟨a2,vs,ha2,sa,ra⟩:=bJ rh1 e;rw[ha]at ha2;cases ha2;have sa':SqL X.K H1 a vs:=by rw[c.K];exact sa
   obtain⟨its,rv,p,hz⟩:=I1.list sa';refine kh p.isList ?_;refine⟨s1.heap.objs.size,[s1.heap.objs.size],_,_,H1,rfl,I1.kept (t':=s1.toks) λb o e=>ag _ e,zO a _,⟨_,a7 _ rfl,rfl,rfl⟩,λb hb=>?_,?_⟩
   ·have e:b=s1.heap.objs.size:=by simpa using hb
    subst e;exact I1.fpOk (ak _) (I1.hok.fresh (ak _))
   ·refine q1 φ1 H1 (Itl X.K a) az (Kp.refl H1) rh1 λφ2 H2 h2 p2 t2 rh2 hg i=>?_;have hg:(match aN h2 n with|some ys=>PV.beqs ys xs|none=>false)=true:=hg
    cases e2:aN h2 n with
    |none=>rw[e2]at hg;cases hg
    |some ys=>
     rw[e2]at hg;have hxy:=PV.beqs_eq hg;subst hxy;obtain⟨a3,us,ha3,su,ru⟩:=bJ rh2 e2;rw[gR p2 ha]at ha3;cases ha3;rw[<-c.K]at su;refine⟨λhi=>?_,λhi=>⟨us,su,by rw[<-ru.length];exact hi⟩⟩;have hi':i<us.length:=by rw[<-ru.length];exact hi
     refine⟨⟨us,us[i],su,by simp[hi']⟩,λx H' y=>?_⟩;obtain⟨e,y⟩:=y;subst e;obtain⟨x2,e2,r2⟩:=ru.get (y us su);exact⟨⟨x2,e2,r2⟩,Kp.refl _,rh2⟩
 |fl xs=>
  obtain⟨a,vs,rfl,sa,ra⟩:=rv1;cases r1
  rw[<-c.K]at sa;obtain⟨its,rv,p,hz⟩:=I1.list sa.sq;refine kh p.isList ?_;refine⟨s1.heap.objs.size,[s1.heap.objs.size],_,_,H1,rfl,I1.kept (t':=s1.toks) λb o e=>ag _ e,zO a _,⟨_,a7 _ rfl,rfl,rfl⟩,λb hb=>?_,?_⟩
  ·have e:b=s1.heap.objs.size:=by simpa using hb
   subst e;exact I1.fpOk (ak _) (I1.hok.fresh (ak _))
  ·refine q1 φ1 H1 (Itl X.K a) az (Kp.refl H1) rh1 λφ2 H2 h2 p2 t2 rh2 _ i=>⟨λhi=>?_,λhi=>⟨vs,(t2.sf sa).sq,by rw[<-ra.length];exact hi⟩⟩;have hi':i<vs.length:=by rw[<-ra.length];exact hi
   refine⟨⟨vs,vs[i],(t2.sf sa).sq,by simp[hi']⟩,λx H' y=>?_⟩;obtain⟨e,y⟩:=y;subst e;obtain⟨x2,e2,r2⟩:=ra.get (y vs (t2.sf sa).sq);exact⟨⟨x2,e2,r2.mono p2 t2⟩,Kp.refl _,rh2⟩
 |_=>exact q1.elim
def upTo(lo:Int):Nat->List PV
 |0=>[]
 |n+1=>.int lo::upTo (lo+1) n
theorem eW:∀(n:Nat)(lo:Int),(upTo lo n).length=n
 |0,_=>rfl
 |n+1,lo=>by simp[upTo,eW n]
theorem wA:∀(n:Nat)(lo:Int)(i:Nat),i<n->(upTo lo n)[i]?=some (.int (lo+i))
 |0,_,_,h=>by omega
 |n+1,lo,0,_=>by simp[upTo]
 |n+1,lo,i+1,h=>by
  simp only[upTo,g7];rw[wA n (lo+1) i (by omega)]
  congr 2
  omega
open Classical in
noncomputable def HE:List PV->PH->Rs Wk:=λxs h=>match xs with
 |[.int j]=>if -(2 ^ 62)<=j/\j<2 ^ 62 then .ok ⟨upTo 0 j.toNat,λ_=>true⟩ h else .bad
 |_=>.bad
noncomputable def kI(ms:Ma):Mi:=λδ h=>(ms δ h).bind HE
theorem TC(lo:Int)(n:Nat)(φ:List Addr)(H:Hp):Jg C (Itr lo n) ⟨upTo lo n,λ_=>true⟩ φ H:=λφ2 H2 h2 p2 t2 rh2 _ i=>by
 refine⟨λhi=>?_,λhi=>?_⟩
 ·have hi':i<n:=by rw[<-eW n lo];exact hi
  refine⟨hi',λx H' y=>?_⟩;obtain⟨e,y⟩:=y;subst e y;exact⟨⟨.int (lo+i),wA n lo i hi',rfl⟩,Kp.refl _,rh2⟩
 ·have:(upTo lo n).length<=i:=hi;rw[eW]at this;exact this
theorem postA.bindI{φ:List Addr}{H:Hp}{r:Rs (List PV)}{f:List PV->PH->Rs Wk}{R:It->Hp->Prop}(h:fJ C φ H (r.bind f) R):postA C φ H r λvs H1=>∃φ1 ps h1,φ<+:φ1/\Kp H H1/\RH C φ1 H1 h1/\RVs C φ1 H1 ps vs/\fJ C φ1 H1 (f ps h1) R:=by
 cases r with
 |ok a h'=>
  intro φ' v H' p' t' rh rv;refine⟨φ',a,h',p',t',rh,rv,?_⟩;have p0:fJ C φ H (f a h') R:=h;cases e2:f a h' with
  |ok w h2=>rw[e2]at p0;exact λφ2 H2 J p2 t2=>p0 φ2 H2 J (p'.trans p2) (t'.trans t2)
  |exc z h2=>rw[e2]at p0;exact λφ2 H2 p2 t2=>p0 φ2 H2 (p'.trans p2) (t'.trans t2)
  |bad=>rw[e2]at p0;exact p0
 |exc a h'=>exact h
 |bad=>exact h
theorem PI.imp{tg iter:Expr}{t t':TI}(h:PI X tg iter t)(i:∀σ H R,t' σ H R->t σ H R):PI X tg iter t':=λpins s σ H R I q=>h pins s σ H R I (i σ H R q)
theorem Bt{x:Expr}{ms:Ma}{tg:Expr}{p pos:Pos}(ha:SA C k X [x] ms)(hb:("range" : Str)∈C.bs:=by decide)(hg:Gl X "range" := by rfl)(hs:bu [x] X.env=[(false,eval x X.env)]:=by rfl):SI C k X tg (.Call (.Name "range" p) [x] [] pos) (kI ms):=λc=>
 (pr1 hg (c.bn _ hb) (ha c) hs).imp λσ H R h=>by
  obtain⟨φ,δ,h,rh,re,p⟩:=h;refine⟨φ,δ,h,rh,re,(postA.bindI p).imp ?_⟩;rintro vs H1 ⟨φ1,xs,h1,p1,t1,rh1,rv1,q1⟩;unfold HE at q1;split at q1
  ·obtain⟨v,rfl,rx⟩:=rv1.one;cases rx
   rename_i j
   by_cases hj:-(2 ^ 62)<=j/\j<2 ^ 62
   ·rw[if_pos hj]at q1;exact⟨hj,q1 φ1 H1 _ az (Kp.refl _) rh1 (TC 0 j.toNat φ1 H1)⟩
   ·rw[if_neg hj]at q1;exact q1.elim
  ·exact q1.elim
def gG(g:PH->Bool)(tg:Mg)(body:Ms):List PV->Ev->PH->Fl
 |[],δ,h=>if g h=true then .nx δ h else .bad
 |x::xs,δ,h=>if g h=true then(match tg x δ with
  |none=>.bad
  |some δ1=>match body δ1 h with
   |.nx δ2 h2=>gG g tg body xs δ2 h2
   |.ct δ2 h2=>gG g tg body xs δ2 h2
   |.bk δ2 h2=>.nx δ2 h2
   |r=>r) else .bad
def kJ(mi:Mi)(tg:Mg)(body:Ms):Ms:=λδ h=>(mi δ h).fl λw h1=>gG w.g tg body w.xs δ h1
theorem fJ.fl{φ:List Addr}{H:Hp}{r:Rs Wk}{f:Wk->PH->Fl}{D:Ends}(h:cB C φ H (r.fl f) D):fJ C φ H r λJ H1=>∃φ1 w h1,φ<+:φ1/\Kp H H1/\RH C φ1 H1 h1/\Jg C J w φ1 H1/\cB C φ1 H1 (f w h1) D:=by
 cases r with
 |ok a h'=>exact λφ' H' J p t rh wk=>⟨φ',a,h',p,t,rh,wk,cB.weak p t h⟩
 |exc a h'=>exact h
 |bad=>exact h
theorem fJ.imp{φ:List Addr}{H:Hp}{r:Rs Wk}{Q Q':It->Hp->Prop}(h:fJ C φ H r Q)(i:∀v H',Q v H'->Q' v H'):fJ C φ H r Q':=by
 cases r with
 |ok a h'=>exact λφ' H' J p t rh wk=>i J H' (h φ' H' J p t rh wk)
 |exc a h'=>exact h
 |bad=>exact h
theorem drop_cons{α:Type}{xs:List α}{i:Nat}{p:α}(h:xs[i]?=some p):xs.drop i=p::xs.drop (i+1):=by
 obtain⟨h1,h2⟩:=ab.mp h;rw[j6 h1,h2]
theorem Py{J:It}{w:Wk}{φ0:List Addr}{H0:Hp}{tg:Mg}{body:Ms}{D:Ends}{σ:St}{δ:Ev}{h:PH}(wk:Jg C J w φ0 H0)(rh:RH C φ0 H0 h)(re:RE C φ0 H0 δ σ)(p:cB C φ0 H0 (gG w.g tg body w.xs δ h) D):
  ∃W:Nat->Nat->St->Hp->Prop,(∃m,W 0 m σ H0)/\∀i m σ H,W i m σ H->
   (J.stop i H/\D.nx σ H)\/(J.go i H/\∃N:St->Hp->Prop,(∀σ' H',N σ' H'->∃m',m'<m/\W (i+1) m' σ' H')/\∀x H',J.yld i H x H'->rdG C tg x σ H' λσ2 H2=>rdS C body { D with nx:=N,ct:=N,bk:=D.nx } σ2 H2):=by
 refine⟨λi m σ H=>m=w.xs.length-i/\i<=w.xs.length/\∃φ δ h,φ0<+:φ/\Kp H0 H/\RH C φ H h/\RE C φ H δ σ/\cB C φ H (gG w.g tg body (w.xs.drop i) δ h) D,
  ⟨w.xs.length,by simp,bw _,φ0,δ,h,az,Kp.refl _,rh,re,by rw[List.drop_zero];exact p⟩,?_⟩
 rintro i m σ H ⟨rfl,hi,φ,δ,h,pp,tt,rh,re,p⟩
 by_cases hlt:i<w.xs.length
 ·have hd:w.xs.drop i=w.xs[i]::w.xs.drop (i+1):=drop_cons (by simp[hlt]);rw[hd]at p;unfold gG at p
  by_cases hg:w.g h=true
  ·rw[if_pos hg]at p;obtain⟨go,step⟩:=(wk φ H h pp tt rh hg i).1 hlt;refine .inr ⟨go,λσ' H'=>∃φ δ h,φ0<+:φ/\Kp H0 H'/\RH C φ H' h/\RE C φ H' δ σ'/\cB C φ H' (gG w.g tg body (w.xs.drop (i+1)) δ h) D,λσ' H' ⟨φ',δ',h',q⟩=>⟨w.xs.length-(i+1),by omega,rfl,hlt,φ',δ',h',q⟩,λx H' y=>?_⟩;obtain⟨⟨q,eq,rv⟩,t1,rh1⟩:=step x H' y;have eq':w.xs[i]=q:=by
    have:w.xs[i]?=some w.xs[i]:=by simp[hlt]
    rw[this]at eq;exact bq eq
   rw[eq']at p;cases et:tg q δ with
   |none=>rw[et]at p;exact p.elim
   |some δ1=>
    rw[et]at p;dsimp only at p;refine⟨φ,δ,h,q,δ1,rh1,re.mono az t1,rv,et,λσ2 re2=>⟨φ,δ1,h,rh1,re2,?_⟩⟩;have p:=cB.weak az t1 p;cases eb:body δ1 h with
    |nx δ2 h2=>rw[eb]at p;exact λφ3 σ3 H3 p3 t3 rh3 re3=>⟨φ3,δ2,h2,pp.trans p3,(tt.trans t1).trans t3,rh3,re3,cB.weak p3 t3 p⟩
    |ct δ2 h2=>rw[eb]at p;exact λφ3 σ3 H3 p3 t3 rh3 re3=>⟨φ3,δ2,h2,pp.trans p3,(tt.trans t1).trans t3,rh3,re3,cB.weak p3 t3 p⟩
    |bk δ2 h2=>rw[eb]at p;exact p
    |rt z h2=>rw[eb]at p;exact p
    |exc z h2=>rw[eb]at p;exact p
    |bad=>rw[eb]at p;exact p
  ·rw[if_neg hg]at p;exact p.elim
 ·have e:i=w.xs.length:=by omega
  subst e;rw[oe]at p;unfold gG at p
  by_cases hg:w.g h=true
  ·rw[if_pos hg]at p;exact .inl ⟨(wk φ H h pp tt rh hg _).2 (ak _),p.nx rh re⟩
  ·rw[if_neg hg]at p;exact p.elim
theorem nM{tg iter:Expr}{body:List Stmt}{mi:Mi}{t:Mg}{mb:Ms}{pos:Pos}(hi:SI C k X tg iter mi)(hg:SG C k X tg t)(hb:SSs C k X body mb)(hp:PassesOwn (model X.prog X.w) X.A X.env X.xe:=by exact PassesOwn.never)
  (hs:∀x,ji iter X.env x=pure x:=by intro _;rfl):SSt C k X (.For tg iter body [] pos) (kJ mi t mb):=λc=>(SH hp c.calm (hi c) (hg c) (hb c) hs).imp λD σ H h=>by
 obtain⟨φ,δ,h,rh,re,p⟩:=h;refine⟨φ,δ,h,rh,re,(fJ.fl p).imp ?_⟩;rintro J H1 ⟨φ1,w,h1,p1,t1,rh1,wk,q1⟩;exact Py wk rh1 (re.mono p1 t1) q1
end L2
namespace L2
open PySem PySem.Spec PyProof.Rows
variable{C:MC}{k:Nat}{X:Cx}
def bX(js:List (Option Nat))(δ:Ev):Ev:=js.map λo=>match o with
 |none=>none
 |some j=>Bo δ j
theorem HF:∀{σ:St}{i:Nat}{v:V},σ[i]?=some (some v)->F6 σ i=some v
 |[],_,_,h=>by simp at h
 |x::_,0,v,h=>by
  have:x=some v:=by simpa using h
  exact this
 |_::r,n+1,v,h=>HF (σ:=r) (i:=n) (by simpa using h)
theorem RE.cap{φ:List Addr}{H:Hp}{δ:Ev}{σ:St}(re:RE C φ H δ σ)(js:List (Option Nat)):RE C φ H (bX js δ) (iX js σ):=by
 refine⟨by simp[bX,iX],λi p e=>?_⟩;unfold bX at e;unfold iX;rw[au]at e⊢;cases q:js[i]? with
 |none=>rw[q]at e;cases e
 |some o=>
  rw[q]at e;cases o with
  |none=>cases e
  |some j=>
   obtain⟨v,hv,rv⟩:=re.2 j p (vT (bq e));exact⟨v,by show some (F6 σ j)=_;rw[HF hv],rv⟩
def jS(g:PH->Bool)(tg:Mg)(tst:Ev->PH->Rs Bool)(elt:Me)(δ0:Ev)(n:Nat):List PV->PH->Rs PV
 |[],h=>if g h=true then .ok (.ref n) h else .bad
 |x::xs,h=>if g h=true then(match tg x δ0 with
  |none=>.bad
  |some δ1=>(tst δ1 h).bind λb h1=>match b with
   |false=>jS g tg tst elt δ0 n xs h1
   |true=>(elt δ1 h1).bind λp h2=>match dE h2 n with
    |some ys=>if ys.length<aw then jS g tg tst elt δ0 n xs (h2.set n (.lst (ys++[p]))) else .bad
    |none=>.bad) else .bad
def bB(js:List (Option Nat))(mi:Mi)(tg:Mg)(tst:Ev->PH->Rs Bool)(elt:Me):Me:=λδ h=>(mi δ h).bind λw h1=>jS w.g tg tst elt (bX js δ) h1.length w.xs (h1++[.lst []])
def fK:Ev->PH->Rs Bool:=λ_ h=>.ok true h
def STs(C:MC)(k:Nat)(X:Cx)(es:List Expr)(m:Ev->PH->Rs Bool):Prop:=Cxt C k X->PTs X es (rdB C m)
theorem jD:STs C k X [] fK:=λc pins s σ H Q I h=>by
 obtain⟨φ,δ,h,rh,re,p⟩:=h;exact Pd pins s σ H Q I (p.val rh)
theorem dZ{e:Expr}{m:Ev->PH->Rs Bool}(h:ST C k X e m):STs C k X [e] m:=λc=>Pe (h c)
theorem fJ.bind{φ:List Addr}{H:Hp}{r:Rs Wk}{f:Wk->PH->Rs PV}{Q:VK}(h:post C φ H (r.bind f) Q):fJ C φ H r λJ H1=>∃φ1 w h1,φ<+:φ1/\Kp H H1/\RH C φ1 H1 h1/\Jg C J w φ1 H1/\post C φ1 H1 (f w h1) Q:=by
 cases r with
 |ok a h'=>exact λφ' H' J p t rh wk=>⟨φ',a,h',p,t,rh,wk,post.weak p t h⟩
 |exc a h'=>exact h
 |bad=>exact h
theorem LS{J:It}{w:Wk}{φ0:List Addr}{H0:Hp}{tg:Mg}{tst:Ev->PH->Rs Bool}{elt:Me}{Q:VK}{σ:St}{δ:Ev}{h:PH}{js:List (Option Nat)}(wk:Jg C J w φ0 H0)(rh:RH C φ0 H0 h)(re:RE C φ0 H0 δ σ)
  (p:post C φ0 H0 (jS w.g tg tst elt (bX js δ) h.length w.xs (h++[.lst []])) Q) (acc:Addr) (hacc:H0 acc=none):
  ∃W:Nat->Nat->Hp->Prop,(∃m,W 0 m (upd H0 acc (.lst [])))/\∀i m H2,W i m H2->
   (J.stop i H2/\Q (.ref acc) H2)\/(J.go i H2/\∃N:Hp->Prop,(∀H',N H'->∃m',m'<m/\W (i+1) m' H')/\∀x H3,J.yld i H2 x H3->S2 js (rdG C tg) (rdB C tst) (rd C elt) σ acc x H3 N):=by
 have hlen:(φ0++[acc])[h.length]?=some acc:=by rw[<-rh.len];simp
 refine⟨λi m H=>m=w.xs.length-i/\i<=w.xs.length/\∃φ h',(φ0++[acc])<+:φ/\Kp H0 H/\RH C φ H h'/\post C φ H (jS w.g tg tst elt (bX js δ) h.length (w.xs.drop i) h') Q,
  ⟨w.xs.length,by simp,bw _,φ0++[acc],h++[.lst []],az,Kp.new hacc,rh.new (o:=.lst []) hacc ⟨[],bF,trivial⟩,by rw[List.drop_zero];exact post.weak (c8 _ _) (Kp.new hacc) p⟩,?_⟩
 rintro i m H ⟨rfl,hi,φ,h',pp,tt,rh',p⟩;have pp0:φ0<+:φ:=(c8 _ _).trans pp
 by_cases hlt:i<w.xs.length
 ·have hd:w.xs.drop i=w.xs[i]::w.xs.drop (i+1):=drop_cons (by simp[hlt]);rw[hd]at p;unfold jS at p
  by_cases hg:w.g h'=true
  ·rw[if_pos hg]at p;obtain⟨go,step⟩:=(wk φ H h' pp0 tt rh' hg i).1 hlt;refine .inr ⟨go,λH'=>∃φ h',(φ0++[acc])<+:φ/\Kp H0 H'/\RH C φ H' h'/\post C φ H' (jS w.g tg tst elt (bX js δ) h.length (w.xs.drop (i+1)) h') Q,λH' ⟨φ',h',q⟩=>⟨w.xs.length-(i+1),by omega,rfl,hlt,φ',h',q⟩,λx H' y=>?_⟩;obtain⟨⟨q,eq,rv⟩,t1,rh1⟩:=step x H' y;have eq':w.xs[i]=q:=by
    have:w.xs[i]?=some w.xs[i]:=by simp[hlt]
    rw[this]at eq;exact bq eq
   rw[eq']at p;cases et:tg q (bX js δ) with
   |none=>rw[et]at p;exact p.elim
   |some δ1=>
    rw[et]at p;have re1:RE C φ H' (bX js δ) (iX js σ):=(re.mono pp0 (tt.trans t1)).cap js;refine⟨φ,bX js δ,h',q,δ1,rh1,re1,rv,et,λσ2 re2=>⟨φ,δ1,h',rh1,re2,(bW.bind (post.weak az t1 p)).imp ?_⟩⟩;rintro b H5 ⟨φ5,h5,p5,t5,rh5,q5⟩;cases b with
    |false=>exact CN ⟨φ5,h5,pp.trans p5,(tt.trans t1).trans t5,rh5,q5⟩
    |true=>
     refine CO ⟨φ5,δ1,h5,rh5,re2.mono p5 t5,(post.bind q5).imp ?_⟩;rintro v H6 ⟨φ6,z,h6,p6,t6,rh6,rv6,q6⟩;cases e6:dE h6 h.length with
     |none=>rw[e6]at q6;exact q6.elim
     |some ys=>
      rw[e6]at q6;obtain⟨hz,q6⟩:=q6.ite;have hφ:φ6[h.length]?=some acc:=gR ((pp.trans p5).trans p6) hlen;obtain⟨vs,hH,rvs⟩:=rh6.at' h.length acc _ hφ (iG e6);refine⟨vs,hH,by rw[<-rvs.length];exact hz,φ6,h6.set h.length (.lst (ys++[z])),(pp.trans p5).trans p6,(((tt.trans t1).trans t5).trans t6).trans (Kp.lst hH),
       rh6.write hφ (by rw[hH];trivial) ⟨vs++[v],bF,(rvs.snoc rv6).mono az (Kp.lst hH)⟩,post.weak az (Kp.lst hH) q6⟩
  ·rw[if_neg hg]at p;exact p.elim
 ·have e:i=w.xs.length:=by omega
  subst e;rw[oe]at p;unfold jS at p
  by_cases hg:w.g h'=true
  ·rw[if_pos hg]at p;exact .inl ⟨(wk φ H h' pp0 tt rh' hg _).2 (ak _),p.val rh' ⟨acc,rfl,gR pp hlen⟩⟩
  ·rw[if_neg hg]at p;exact p.elim
theorem HG{js:List (Option Nat)}{mi:Mi}{tg:Mg}{tst:Ev->PH->Rs Bool}{elt:Me}{σ:St}{H:Hp}{Q:VK}(h:rd C (bB js mi tg tst elt) σ H Q):Hq js (rdI C mi) (rdG C tg) (rdB C tst) (rd C elt) σ H Q:=by
 obtain⟨φ,δ,h,rh,re,p⟩:=h;refine⟨φ,δ,h,rh,re,(fJ.bind p).imp ?_⟩;rintro J H1 ⟨φ1,w,h1,p1,t1,rh1,wk,q1⟩;intro acc hacc;exact LS wk rh1 (re.mono p1 t1) q1 acc hacc
section
variable{elt iter tg:Expr}{ifs:List Expr}{sc:Scope}{pos:Pos}{os:Scope}{oN N:List Str}{js:List (Option Nat)}{mi:Mi}{g:Mg}{tt:Ev->PH->Rs Bool}{me:Me}
theorem cO(hes:X.env.scope=os)(heN:X.N=oN)(ok:nW os oN sc N js=true)(hi:SI C k X tg iter mi)
  (hg:∀C' fp s₀ H₀,SG C k (X.comp sc N C' fp s₀ H₀) tg g) (ht:∀C' fp s₀ H₀,STs C k (X.comp sc N C' fp s₀ H₀) ifs tt) (he:∀C' fp s₀ H₀,SE C k (X.comp sc N C' fp s₀ H₀) elt me)
  (hs:∀x,ji iter X.env x=pure x:=by intro _;rfl):SE C k X (.ListComp elt [⟨tg,iter,ifs,0⟩] sc pos) (bB js mi g tt me):=λc=>
 (Pf c.calm hes heN ok (hi c) (λa b s H=>hg a b s H (c.comp sc N a b s H)) (λa b s H=>ht a b s H (c.comp sc N a b s H)) (λa b s H=>he a b s H (c.comp sc N a b s H)) hs).imp λσ H Q h=>HG h
theorem iJ{i:Nat}{x:Str}{pos' spos:Pos}(hN:X.N.Nodup)(hx':X.N[i]?=some x)(hloc:X.env.scope.names.lookup x=some .local)(hes:X.env.scope=os)(heN:X.N=oN)(ok:nW os oN sc N js=true)(hi:SI C k X tg iter mi)
  (hg:∀C' fp s₀ H₀,SG C k (X.comp sc N C' fp s₀ H₀) tg g) (ht:∀C' fp s₀ H₀,STs C k (X.comp sc N C' fp s₀ H₀) ifs tt) (he:∀C' fp s₀ H₀,SE C k (X.comp sc N C' fp s₀ H₀) elt me)
  (hsw:swapsWith (.ListComp elt [⟨tg,iter,ifs,0⟩] sc pos) (some (.Name x pos')) spos.line X.env=pure true:=by rfl)
  (hs:∀x,ji iter X.env x=pure x:=by intro _;rfl):SSt C k X (.Assign [.Name x pos'] (.ListComp elt [⟨tg,iter,ifs,0⟩] sc pos) spos) (bK i (bB js mi g tt me)):=λc=>
 (F7 hN hx' hloc c.calm hes heN ok (hi c) (λa b s H=>hg a b s H (c.comp sc N a b s H)) (λa b s H=>ht a b s H (c.comp sc N a b s H)) (λa b s H=>he a b s H (c.comp sc N a b s H)) hsw hs).imp λD σ H h=>by
  obtain⟨φ,δ,h,rh,re,p⟩:=h;refine HG ⟨φ,δ,h,rh,re,(post.fl p).imp ?_⟩;rintro v H1 ⟨φ1,x,h1,p1,t1,rh1,rv1,q1⟩;exact q1.nx rh1 ((re.mono p1 t1).set rv1 i)
end
def mFn(N:Nat)(body:Ms):Fn:=λargs h=>match body (args.map some++cj (N-args.length) none) h with
 |.nx _ h'=>.ok .non h'
 |.rt p h'=>.ok p h'
 |.exc x h'=>.exc x h'
 |_=>.bad
theorem RE.start{φ:List Addr}{H:Hp}{ps:List PV}{vs:List V}(r:RVs C φ H ps vs)(N:List Str):RE C φ H (ps.map some++cj (N.length-ps.length) none) (start N vs):=by
 unfold L2.start;refine⟨by simp[r.length],λi p e=>?_⟩
 by_cases hi:i<ps.length
 ·rw[d4 (by simpa using hi),au]at e
  rw[d4 (by simpa[<-r.length] using hi),au]
  cases q:ps[i]? with
  |none=>rw[q]at e;cases e
  |some x=>
   rw[q]at e;cases e
   obtain⟨v,hv,rv⟩:=r.at q;exact⟨v,by rw[hv];rfl,rv⟩
 ·rw[ft (by simpa using hi)]at e
  rw[List.getElem?_replicate]at e;split at e
  ·cases e
  ·cases e
theorem cG{P:Program}{mg:Str->Option Value}{base:Heap}{x qual:Str}{st:Stmt}{f:Addr}{fd:c5}{N ps:List Str}{body:Ms}(hex:∀φ H x,¬ C.ex φ H x)(hbn:∀x∈C.bs,mg x=none)
  (F:Fun C.K x qual st f fd) (S:aX N ps (aE st))
  (hb:∀(cdv:Value)(A:Around)(outer:List Env)(s:Shared)(H:Hp)(E:XK),SSs C k (F1 CX0 P C.w C.K mg base N qual (aE st) f cdv A outer s H E).nox (aP st) body):
  aV P C.w C.K mg base CX0 (k+1) f fd ps (spM C ps.length (mFn N.length body)):=by
 refine F.ok S (λvs H Q E h=>?_) (λcdv A outer s H vs Q E hr h=>?_)
 ·obtain⟨φ,h,xs,rh,rv,hl,_⟩:=h;rw[<-rv.length];exact hl
 ·obtain⟨φ,h,xs,rh,rv,hl,p⟩:=h;refine⟨_,hb cdv A outer s H E ⟨rfl,rfl,hr,hbn,rfl⟩,φ,xs.map some++cj (N.length-xs.length) none,h,rh,RE.start rv N,?_⟩;unfold mFn at p;cases e:body (xs.map some++cj (N.length-xs.length) none) h with
  |nx δ h'=>rw[e]at p;exact λφ' σ' H' pp tt rh' re'=>p φ' .non H' pp tt rh' rfl
  |rt z h'=>rw[e]at p;exact p
  |exc z h'=>rw[e]at p;exact λφ' H' pp tt rh'=>(hex _ _ _ (p φ' H' pp tt rh')).elim
  |bk δ h'=>rw[e]at p;exact p.elim
  |ct δ h'=>rw[e]at p;exact p.elim
  |bad=>rw[e]at p;exact p.elim
theorem TF{f:Fn}{H:Hp}{Q:VK}{E:XK}{a:Addr}{ns:List Int}(hO:Lg H)(ho:SqL C.K H a (ns.map V.int))(hf:∃h,f [.fl (ns.map PV.int)] []=.ok (.bl true) h)(hQ:∀H',Q (.bl true) H'):spM C 1 f [.ref a] H Q E:=by
 have r0:∀ns:List Int,RVs C [] H (ns.map PV.int) (ns.map V.int):=by
  intro ns
  induction ns with
  |nil=>trivial
  |cons n ns ih=>exact⟨rfl,ih⟩
 have hs:SqF C.K H a (ns.map V.int):=by
  rcases ho with(h|⟨o,h⟩)|h
  ·rcases hO a with z|⟨o,xs,z⟩
   ·rw[z]at h;cases h
   ·rw[z]at h;cases h
  ·exact .inl ⟨o,h⟩
  ·exact .inr h
 refine⟨[],[],[.fl (ns.map PV.int)],⟨rfl,by simp,λn b ob h1 h2=>by simp at h1⟩,⟨⟨a,_,rfl,hs,r0 ns⟩,trivial⟩,rfl,?_⟩;obtain⟨h,e⟩:=hf;rw[e];intro φ' v H' _ _ _ rv;cases rv
 exact hQ H'
end L2
namespace L2
open PySem PySem.Spec PyProof.Rows
variable{C:MC}{k:Nat}{X:Cx}
def tyN(x:PV)(h:PH):Option String:=match x with
 |.non=>some "NoneType"
 |.bl _=>some "bool"
 |.int _=>some "int"
 |.str _=>some "str"
 |.tup _=>some "tuple"
 |.fl _=>some "list"
 |.ref n=>match h[n]? with
  |some (.lst _)=>some "list"
  |some (.dK _)=>some "dict"
  |_=>none
 |.ty _=>none
def Da(t c:String):Bool:=t == c || (t == "bool" && c == "int")
def known:List String:=["int","str","bool","list","tuple","dict"]
def Pz:List PV->PH->Rs PV:=λxs h=>match xs with
 |[x,.ty c]=>match tyN x h with
  |some t=>if c∈known then .ok (.bl (Da t c)) h else .bad
  |none=>.bad
 |_=>.bad
def PB:List PV->PH->Rs PV:=λxs h=>match xs with
 |[.int i,.int j]=>.ok (.int (if j<i then j else i)) h
 |_=>.bad
theorem VT:gU C k X (.builtin "min") PB:=λc=>(IT c.calm).imp λvs H Q h=>by
 obtain⟨φ,h,ps,rh,rv,po⟩:=h;unfold PB at po;split at po
 ·obtain⟨v,w,rfl,rx,ry⟩:=rv.two;cases rx;cases ry;exact⟨_,_,rfl,po.val rh rfl⟩
 ·exact po.elim
def mMt(ty:PV->PH->Bool)(g:PV->List PV->PH->Rs PV)(mo:Me)(ms:Ma):Me:=λδ h=>(mo δ h).bind λx h1=>if ty x h1=true then(ms δ h1).bind λps h2=>g x ps h2 else .bad
def PC(ty:PV->PH->Bool)(g:PV->List PV->PH->Rs PV)(mo:Me):Me:=λδ h=>(mo δ h).bind λx h1=>if ty x h1=true then g x [] h1 else .bad
def rM(C:MC)(g:PV->List PV->PH->Rs PV):V->List V->Hp->VK->Prop:=λx xs H Q=>∃φ h p ps,RH C φ H h/\RV C φ H p x/\RVs C φ H ps xs/\post C φ H (g p ps h) Q
def MtS(C:MC)(k:Nat)(X:Cx)(T:String)(ty:PV->PH->Bool)(id:String)(g:PV->List PV->PH->Rs PV):Prop:=Cxt C k X->MtR X id (rM C g)/\∀φ H h p x,RH C φ H h->RV C φ H p x->ty p h=true->tyV C.K T x H
section
variable{o e:Expr}{es:List Expr}{mo:Me}{ms:Ma}{name:Str}{apos cpos:Pos}{T id:String}{ty:PV->PH->Bool}{g:PV->List PV->PH->Rs PV}
theorem LU(pa:PlainAttrs T)(slot:Slot T name id)(hty:typeOf (.builtin id)=pure (.type "method_descriptor"))(hm:MtS C k X T ty id g)(ho:SE C k X o mo)(ha:SA C k X (e::es) ms)
  (hbase:attributeBase o name X.env (eval o X.env)=eval o X.env:=by rfl)
  (hfew:((backTo cpos (bu (e::es) X.env)).all (λx=>!x.1)&&(backToKw cpos (keywordEach [] X.env)).all (λx=>x.1.isSome)
   && decide ((e::es).length+([]:List Keyword).length+(if([]:List Keyword).isEmpty then 0 else 1)<30))=true:=by rfl)
  (hline:(apos.endLine == cpos.line)=true:=by rfl) (hs:bu (e::es) X.env=(false,eval e X.env)::bu es X.env:=by rfl) (hplain:(backTo cpos (bu es X.env)).any (·.1)=false:=by rfl):
  SE C k X (.Call (.Attribute o name apos) (e::es) [] cpos) (mMt ty g mo ms):=λc=>(Vq pa slot hty (hm c).1 (ho c) (ha c) hbase hfew hline hs hplain).imp λσ H Q h=>by
 obtain⟨φ,δ,h,rh,re,p⟩:=h;refine⟨φ,δ,h,rh,re,(post.bind p).imp ?_⟩;rintro v H1 ⟨φ1,x,h1,p1,t1,rh1,rv1,q1⟩;obtain⟨ht,q1⟩:=q1.ite;refine⟨by rw[c.K];exact(hm c).2 φ1 H1 h1 x v rh1 rv1 ht,φ1,δ,h1,rh1,re.mono p1 t1,(postA.bind q1).imp ?_⟩;rintro vs H2 ⟨φ2,xs,h2,p2,t2,rh2,rv2,q2⟩;exact⟨φ2,h2,x,xs,rh2,rv1.mono p2 t2,rv2,q2⟩
end
theorem MtR.imp{id:String}{r r':V->List V->Hp->VK->Prop}(h:MtR X id r)(i:∀x xs H Q,r' x xs H Q->r x xs H Q):MtR X id r':=λpins s σ H x xs v us Q I rx rs q=>h pins s σ H x xs v us Q I rx rs (i x xs H Q q)
def isL(x:PV)(h:PH):Bool:=match x with
 |.ref n=>(dE h n).isSome
 |_=>false
theorem LV{φ:List Addr}{H:Hp}{h:PH}{p:PV}{x:V}(rh:RH C φ H h)(rv:RV C φ H p x)(e:isL p h=true):tyV C.K "list" x H:=by
 cases p with
 |ref n=>
  obtain⟨a,rfl,ha⟩:=rv;obtain⟨xs,hx⟩:=Option.isSome_iff_exists.mp (show(dE h n).isSome=true from e)
  obtain⟨vs,hH,ra⟩:=rh.at' n a _ ha (iG hx);exact .inl ⟨rfl,vs,SqL.of hH⟩
 |_=>cases e
def onL(f:List PV->List PV->Option (PV×List PV)):PV->List PV->PH->Rs PV:=λx ps h=>match x with
 |.ref n=>match dE h n with
  |some xs=>match f xs ps with
   |some (r,ys)=>.ok r (h.set n (.lst ys))
   |none=>.bad
  |none=>.bad
 |_=>.bad
theorem TH{f:List PV->List PV->Option (PV×List PV)}{x:V}{xs:List V}{H:Hp}{Q:VK}(h:rM C (onL f) x xs H Q):∃φ l ps ys vs r zs,x=.ref l/\H l=some (.lst vs)/\RVs C φ H ys vs/\RVs C φ H ps xs/\f ys ps=some (r,zs)/\
  ∀(v:V)(ws:List V),RV C φ H r v->RVs C φ H zs ws->Q v (upd H l (.lst ws)):=by
 obtain⟨φ,h,p,ps,rh,rx,rs,po⟩:=h;unfold onL at po;cases p with
 |ref n=>
  obtain⟨a,rfl,ha⟩:=rx;dsimp only at po;cases e:dE h n with
  |none=>rw[e]at po;exact po.elim
  |some ys=>
   rw[e]at po;dsimp only at po;obtain⟨vs,hH,ra⟩:=rh.at' n a _ ha (iG e);cases ef:f ys ps with
   |none=>rw[ef]at po;exact po.elim
   |some rz=>
    rw[ef]at po;obtain⟨r,zs⟩:=rz;exact⟨φ,a,ps,ys,vs,r,zs,rfl,hH,ra,rs,ef,λv ws rv rw'=>po.lset rh ha hH rw' rv⟩
 |_=>exact po.elim
def dO:List PV->List PV->Option (PV×List PV):=λxs ps=>match ps with
 |[p]=>if xs.length<aw then some (.non,xs++[p]) else none
 |_=>none
theorem Jh:MtR X "list.append" (rM C (onL dO)):=MtR.imp (show MtR X "list.append" Hn from zU) λx xs H Q h=>by
 obtain⟨φ,l,ps,ys,vs,r,zs,rfl,hH,ra,rs,ef,q⟩:=TH h;unfold dO at ef;split at ef
 ·split at ef
  ·rename_i hz;cases ef
   obtain⟨v,rfl,rx⟩:=rs.one;exact⟨l,vs,v,rfl,rfl,hH,by rw[<-ra.length];exact hz,q .non _ rfl (ra.snoc rx)⟩
  ·cases ef
 ·cases ef
theorem pK:MtS C k X "list" isL "list.append" (onL dO):=λc=>⟨Jh,λφ H h p x rh rv e=>LV rh rv e⟩
def VU(K:ah):R2:=λx y H Q=>∃a b ys,x=.ref a/\y=.ref b/\SqT K H a []/\SqT K H b ys/\Q (.ref b) H
theorem PD:OpR X (fv .Add) (VU X.K):=by
 intro pins s σ H x y v u Q I rx ry h;obtain⟨a,b,ys,rfl,rfl,ha,hb,q⟩:=h;cases rx
 cases ry
 obtain⟨its,r1,p1,_⟩:=I.tuple ha;obtain⟨its2,r2,p2,_⟩:=I.tuple hb;cases r1
 obtain⟨⟨cls,dd,data,sl⟩,ho,hc,n,hd⟩:=id p1;obtain⟨⟨cls2,dd2,data2,sl2⟩,ho2,hc2,n2,hd2⟩:=id p2;simp only at hc hd hc2 hd2;subst hc hd hc2 hd2;exact concat_meets ⟨_,ho,rfl⟩ ⟨_,ho2,rfl⟩ noFill_tuple_add seq_tuple_add PySem.F.slot_tuple_add PySem.F.entry_tuple_add (PySem.F.args_tuple_add_2 _ _)
   (tuple_addW0 a b ([]:List Value).toArray its2.toArray n n2 dd dd2 sl sl2 (by simp)) ⟨ho,ho2,⟨.ref b,H,I,rfl,q⟩⟩
def bH:PV->PV->PH->Rs PV:=λx y h=>match x,y with
 |.tup [],.tup ys=>.ok (.tup ys) h
 |x,y=>LD x y h
theorem bY:OpS C k X (fv .Add) bH:=λc=>((VI c).or (by have:=PD (X:=X);rw[c.K]at this;exact this)).imp λx y H Q h=>by
 obtain⟨φ,h,p,q,rh,rx,ry,po⟩:=h;unfold bH at po;split at po
 ·obtain⟨a,vs,rfl,sa,ra⟩:=rx;obtain⟨b,us,rfl,sb,rb⟩:=ry;have:vs=[]:=by cases vs <;> first|rfl|exact ra.elim
  subst this;exact .inr ⟨a,b,us,rfl,rfl,sa,sb,po.val rh ⟨b,us,rfl,sb,rb⟩⟩
 ·exact .inl ⟨φ,h,p,q,rh,rx,ry,po⟩
end L2
namespace L2
open PySem PySem.Spec PyProof.Rows
variable{C:MC}{k:Nat}{X:Cx}
theorem Sa:UnS C k X (unaryOp .USub) LI:=λc=>by
 have h:UnR X (unaryOp .USub) (rU λi=>.int (-i)):=SS;intro pins s σ H x v Q I rx q;refine h pins s σ H x v Q I rx ?_;obtain⟨φ,h,p,rh,rv,po⟩:=q;unfold LI at po;cases p with
 |int i=>cases rv;exact⟨i,rfl,po.val rh rfl⟩
 |_=>exact po.elim
end L2
namespace L2
open PySem
@[irreducible]def Rs.W{α:Type}(r:Rs α)(Q:α->PH->Prop):Prop:=match r with
 |.ok a h=>Q a h
 |_=>False
structure FE where
 nx:Ev->PH->Prop
 rt:PV->PH->Prop
 bk:Ev->PH->Prop:=λ_ _=>False
 ct:Ev->PH->Prop:=λ_ _=>False
@[irreducible]def Fl.W(r:Fl)(E:FE):Prop:=match r with
 |.nx δ h=>E.nx δ h
 |.rt p h=>E.rt p h
 |.bk δ h=>E.bk δ h
 |.ct δ h=>E.ct δ h
 |_=>False
@[irreducible]def Lt(b:Ms)(E:FE)(δ:Ev)(h:PH):Prop:=(b δ h).W E
section
unseal Rs.W Fl.W Lt
variable{α β:Type}{Q:α->PH->Prop}{E:FE}{δ:Ev}{h:PH}
@[simp]theorem kK{a:α}:(Rs.ok a h).W Q=Q a h:=(rfl)
@[simp]theorem Yp:(Fl.nx δ h).W E=E.nx δ h:=(rfl)
@[simp]theorem Yq{p:PV}:(Fl.rt p h).W E=E.rt p h:=(rfl)
@[simp]theorem Yr:(Fl.bk δ h).W E=E.bk δ h:=(rfl)
@[simp]theorem Ys:(Fl.ct δ h).W E=E.ct δ h:=(rfl)
@[simp]theorem Bu{Q:β->PH->Prop}{r:Rs α}{f:α->PH->Rs β}:(r.bind f).W Q=r.W λa h=>(f a h).W Q:=by cases r <;> rfl
@[simp]theorem PF{r:Rs α}{f:α->PH->Fl}:(r.fl f).W E=r.W λa h=>(f a h).W E:=by cases r <;> rfl
theorem LW{Q':α->PH->Prop}{r:Rs α}(h:r.W Q)(i:∀a h,Q a h->Q' a h):r.W Q':=by cases r <;> first|exact i _ _ h|exact h
@[simp]theorem Yc{c:Prop}[Decidable c]{x y:Rs α}:(if c then x else y).W Q=if c then x.W Q else y.W Q:=by split <;> rfl
@[simp]theorem Yd:(Rs.bad:Rs α).W Q=False:=(rfl)
@[simp]theorem XN:Fl.bad.W E=False:=(rfl)
theorem gH{r:Rs α}(w:r.W Q):∃a h,r=.ok a h/\Q a h:=by
 cases r with
 |ok a h=>exact⟨a,h,rfl,w⟩
 |exc=>exact w.elim
 |bad=>exact w.elim
variable{a b:Ms}{m ma mb mc:Me}{t ta tb:Ev->PH->Rs Bool}{g g':PV->PV->PH->Rs PV}
theorem aL:(aW a b δ h).W E=(a δ h).W { E with nx:=Lt b E }:=by
 show(match a δ h with|.nx δ1 h1=>b δ1 h1|r=>r).W E=_
 cases a δ h <;> rfl
theorem now{b:Ms}(w:(b δ h).W E):Lt b E δ h:=w
@[simp]theorem Ye:(kH δ h).W E=E.nx δ h:=(rfl)
@[simp]theorem Yf:(XM δ h).W E=E.bk δ h:=(rfl)
@[simp]theorem Yg:(Tz δ h).W E=E.ct δ h:=(rfl)
@[simp]theorem pL{i:Nat}:(bK i m δ h).W E=(m δ h).W λp h=>E.nx (δ.set i (some p)) h:=by simp[bK]
@[simp]theorem Yh{t:Mg}:(Jf m t δ h).W E=(m δ h).W λp h=>∃δ',t p δ=some δ'/\E.nx δ' h:=by
 unfold Jf;cases m δ h with
 |ok p h1=>
  show(match t p δ with|some δ'=>Fl.nx δ' h1|none=>.bad).W E=∃δ',t p δ=some δ'/\E.nx δ' h1
  cases t p δ <;> simp[Fl.W]
 |exc=>rfl
 |bad=>rfl
@[simp]theorem Yi:(D9 m δ h).W E=(m δ h).W λ_ h=>E.nx δ h:=by simp[D9]
@[simp]theorem kL:(cA m δ h).W E=(m δ h).W E.rt:=by simp[cA]
@[simp]theorem XO:(VR δ h).W E=E.rt .non h:=(rfl)
@[simp]theorem pM:(iI t a b δ h).W E=(t δ h).W λc h=>if c=true then(a δ h).W E else(b δ h).W E:=by
 unfold iI;rw[PF]
 congr
 funext c h
 cases c <;> simp
@[simp]theorem VV{i:Nat}:mV i δ h=match Bo δ i with|some p=>.ok p h|none=>.bad:=(rfl)
@[simp]theorem VW{p:PV}:mC p δ h=.ok p h:=(rfl)
@[simp]theorem PJ:aD g ma mb δ h=(ma δ h).bind λx h1=>(mb δ h1).bind λy h2=>g x y h2:=(rfl)
@[simp]theorem XQ{g:PV->PH->Rs PV}:mUn g ma δ h=(ma δ h).bind g:=(rfl)
@[simp]theorem WT:bQ m δ h=(m δ h).bind tru:=(rfl)
@[simp]theorem VX:Hy t δ h=(t δ h).bind λb h1=>.ok (!b) h1:=(rfl)
@[simp]theorem VY:Ab ta tb δ h=(ta δ h).bind λb h1=>if b=true then tb δ h1 else .ok false h1:=by
 unfold Ab;congr 1;funext b h1;cases b <;> simp
@[simp]theorem WU:LO ta tb δ h=(ta δ h).bind λb h1=>if b=true then .ok true h1 else tb δ h1:=by
 unfold LO;congr 1;funext b h1;cases b <;> simp
@[simp]theorem XR:mIf t ma mb δ h=(t δ h).bind λb h1=>if b=true then ma δ h1 else mb δ h1:=by
 unfold mIf;congr 1;funext b h1;cases b <;> simp
def bl2(x:PV)(f g:Rs PV):Rs PV:=match x with
 |.bl true=>f
 |.bl false=>g
 |_=>.bad
@[simp]theorem XS{b:Bool}{f g:Rs PV}:bl2 (.bl b) f g=if b=true then f else g:=by cases b <;> simp[bl2]
@[simp]theorem VZ:Hz ma mb δ h=(ma δ h).bind λx h1=>bl2 x (mb δ h1) (.ok (.bl false) h1):=by
 unfold Hz;first|rfl|(congr 1;funext x h1;cases x <;> first|rfl|(rename_i b;cases b <;> rfl))
@[simp]theorem WV:LN g g' ma mb mc δ h=(ma δ h).bind λx h1=>(mb δ h1).bind λy h2=>(g x y h2).bind λz h3=>bl2 z ((mc δ h3).bind λw h4=>(g' y w h4).bind LM) (.ok (.bl false) h3):=by
 unfold LN;first|rfl|(congr 1;funext x h1;congr 1;funext y h2;congr 1;funext z h3;cases z <;> first|rfl|(rename_i b;cases b <;> rfl))
@[simp]theorem W0{b:Bool}:LM (.bl b) h=.ok (.bl b) h:=(rfl)
@[simp]theorem WW{ms:Ma}:jC ms δ h=(ms δ h).bind λxs h1=>if xs.length<=aw then .ok (.tup xs) h1 else .bad:=(rfl)
@[simp]theorem WX{ms:Ma}:pI ms δ h=(ms δ h).bind λxs h1=>if xs.length<=aw then .ok (.ref h1.length) (h1++[.lst xs]) else .bad:=(rfl)
@[simp]theorem UW:rY δ h=.ok (.ref h.length) (h++[.dK []]):=(rfl)
@[simp]theorem uV:aI δ h=.ok [] h:=(rfl)
@[simp]theorem iK{ms:Ma}:aB m ms δ h=(m δ h).bind λx h1=>(ms δ h1).bind λxs h2=>.ok (x::xs) h2:=(rfl)
@[simp]theorem sA{g:List PV->PH->Rs PV}{ms:Ma}:mCB g ms δ h=(ms δ h).bind g:=(rfl)
@[simp]theorem wB{n:Nat}{f:Fn}{ms:Ma}:aY n f ms δ h=(ms δ h).bind λps h1=>if ps.length=n then f ps h1 else .bad:=(rfl)
@[simp]theorem WY:D7 δ h=.ok none h:=(rfl)
def LX(x:PV)(h:PH):Rs (Option Int):=match x with
 |.int i=>.ok (some i) h
 |_=>.bad
@[simp]theorem TJ{i:Int}:LX (.int i) h=.ok (some i) h:=(rfl)
@[simp]theorem Yj:mP m δ h=(m δ h).bind LX:=(rfl)
@[simp]theorem XT{ml mh:Mo}:mSl m ml mh δ h=(m δ h).bind λx h1=>(ml δ h1).bind λl h2=>(mh δ h2).bind λu h3=>vSl x l u h3:=(rfl)
@[simp]theorem XU{ty:PV->PH->Bool}{g:PV->List PV->PH->Rs PV}{ms:Ma}:mMt ty g m ms δ h=(m δ h).bind λx h1=>if ty x h1=true then(ms δ h1).bind λps h2=>g x ps h2 else .bad:=(rfl)
@[simp]theorem PK{ty:PV->PH->Bool}{g:PV->List PV->PH->Rs PV}:PC ty g m δ h=(m δ h).bind λx h1=>if ty x h1=true then g x [] h1 else .bad:=(rfl)
@[simp]theorem pN:aw=16777216:=by rw[cx]
theorem PL{i j:Int}{h:PH}(c:(-18446744073709551616<i/\i<18446744073709551616)\/(-18446744073709551616<j/\j<18446744073709551616)):Bp (.int i) (.int j) h=.ok (.int (i*j)) h:=by
 show(if CJ i j then _ else _)=_
 exact if_pos c
@[simp]theorem W1{i j:Int}(c:(-18446744073709551616<i/\i<18446744073709551616)\/(-18446744073709551616<j/\j<18446744073709551616)):vInt CJ (λi j=>i*j) (.int i) (.int j) h=.ok (.int (i*j)) h:=PL c
@[simp]theorem WZ{i j:Int}(c:0<j/\j<1073741824):vInt L5 (λi j=>i/j) (.int i) (.int j) h=.ok (.int (i/j)) h:=if_pos c
@[simp]theorem X0{i j:Int}(c:0<j):vInt (λ_ j=>0<j) (λi j=>i%j) (.int i) (.int j) h=.ok (.int (i%j)) h:=if_pos c
@[simp]theorem X1{i j:Int}(c:0<=j/\j<=1000000/\-18446744073709551616<i/\i<18446744073709551616):vInt IQ (λi j=>i ^ j.toNat) (.int i) (.int j) h=.ok (.int (i ^ j.toNat)) h:=by
 show(if IQ i j then _ else _)=_
 refine if_pos ⟨c.1,c.2.1,?_⟩;obtain⟨_,_,h1,h2⟩:=c;omega
@[simp]theorem X2{i j:Int}:Fk (.int i) (.int j) h=.ok (.int (i-j)) h:=(rfl)
@[simp]theorem X3{i:Int}:LI (.int i) h=.ok (.int (-i)) h:=(rfl)
@[simp]theorem Ji{i j:Int}:bH (.int i) (.int j) h=.ok (.int (i+j)) h:=(rfl)
@[simp]theorem Ad{x y:Str}(c:x.length+y.length<=16777216):bH (.str x) (.str y) h=.ok (.str (x++y)) h:=if_pos c
@[simp]theorem W2{f:Int->Int->Bool}{g:List Nat->List Nat->Bool}{i j:Int}:D5 f g (.int i) (.int j) h=.ok (.bl (f i j)) h:=(rfl)
@[simp]theorem W3{f:Int->Int->Bool}{g:List Nat->List Nat->Bool}{i j:Str}:D5 f g (.str i) (.str j) h=.ok (.bl (g i.cps.toList j.cps.toList)) h:=(rfl)
@[simp]theorem XW{b:Bool}:tru (.bl b) h=.ok b h:=(rfl)
@[simp]theorem X4:tru .non h=.ok false h:=(rfl)
@[simp]theorem X5{i:Int}:tru (.int i) h=.ok (i != 0) h:=(rfl)
@[simp]theorem X6{xs:List PV}:tru (.tup xs) h=.ok (!xs.isEmpty) h:=(rfl)
@[simp]theorem W4{p:PV}:ofO (some p) h=.ok p h:=(rfl)
@[simp]theorem W5{b:Bool}:ofB (some b) h=.ok (.bl b) h:=(rfl)
@[simp]theorem X7{xs:List PV}{i:Int}:vIx (.tup xs) (.int i) h=ofO (atI xs i) h:=(rfl)
@[simp]theorem XX{xs:List PV}{i:Int}:vIx (.fl xs) (.int i) h=ofO (atI xs i) h:=(rfl)
theorem gW{n:Nat}{xs:List PV}{i:Int}(e:h[n]?=some (.lst xs)):vIx (.ref n) (.int i) h=ofO (atI xs i) h:=by simp[vIx,aN,e]
@[simp]theorem PM{z:Str}{i:Int}(c:z.length<=16777216):vIx (.str z) (.int i) h=ofO ((atI z.cps.toList i).map λc=>.str ⟨#[c]⟩) h:=if_pos c
@[simp]theorem W6{xs:List PV}:gF [.tup xs] h=.ok (.int xs.length) h:=(rfl)
@[simp]theorem X8{xs:List PV}:gF [.fl xs] h=.ok (.int xs.length) h:=(rfl)
theorem gI{n:Nat}{xs:List PV}(e:h[n]?=some (.lst xs)):gF [.ref n] h=.ok (.int xs.length) h:=by simp[gF,aN,e]
@[simp]theorem X9{i j:Int}:PB [.int i,.int j] h=.ok (.int (if j<i then j else i)) h:=(rfl)
@[simp]theorem X'{i j:Int}:Px [.int i,.int j] h=.ok (.int (if j>i then j else i)) h:=(rfl)
@[simp]theorem W7{i:Int}{c:String}:Pz [.int i,.ty c] h=if c∈known then .ok (.bl (Da "int" c)) h else .bad:=(rfl)
@[simp]theorem W8{i:Str}{c:String}:Pz [.str i,.ty c] h=if c∈known then .ok (.bl (Da "str" c)) h else .bad:=(rfl)
@[simp]theorem Xa{i:Bool}{c:String}:Pz [.bl i,.ty c] h=if c∈known then .ok (.bl (Da "bool" c)) h else .bad:=(rfl)
@[simp]theorem W9{i:List PV}{c:String}:Pz [.tup i,.ty c] h=if c∈known then .ok (.bl (Da "tuple" c)) h else .bad:=(rfl)
theorem jE{n:Nat}{xs:List PV}(e:h[n]?=some (.lst xs)):isL (.ref n) h=true:=by simp[isL,dE,e]
theorem gJ{n:Nat}{xs:List PV}{p:PV}(e:h[n]?=some (.lst xs))(c:xs.length<16777216):onL dO (.ref n) [p] h=.ok .non (h.set n (.lst (xs++[p]))):=by simp[onL,dE,e,dO,c]
theorem PN{α:Type}{xs:List α}{i:Int}(h0:0<=i)(h1:i<xs.length):atI xs i=xs[i.toNat]?:=by
 unfold atI ixN;rw[if_pos h0,if_pos h1];rfl
theorem LY{α:Type}{xs:List α}{x:α}:atI (xs++[x]) (-1)=some x:=by
 unfold atI ixN;rw[if_neg (by decide),if_pos (by simp;omega)];have:((-1:Int)+((xs++[x]).length:Int)).toNat=xs.length:=by simp;omega
 rw[this];simp
theorem Bv{g:PH->Bool}{tg:Mg}{body:Ms}{E:FE}(I:Nat->Ev->PH->Prop):∀(xs:List PV)(k:Nat)(δ:Ev)(h:PH),I k δ h->
  (∀i x δ h,k<=i->xs[i-k]?=some x->I i δ h->g h=true/\∃δ1,tg x δ=some δ1/\(body δ1 h).W { nx:=I (i+1),ct:=I (i+1),rt:=E.rt,bk:=E.nx })->
  (∀δ h,I (k+xs.length) δ h->g h=true/\E.nx δ h)->(gG g tg body xs δ h).W E
 |[],k,δ,h,i0,_,fin=>by
  obtain⟨h1,h2⟩:=fin δ h i0;simp[gG,h1,h2]
 |x::xs,k,δ,h,i0,step,fin=>by
  obtain⟨h1,δ1,h2,h3⟩:=step k x δ h (ak _) (by simp) i0;have go:∀δ2 h2,I (k+1) δ2 h2->(gG g tg body xs δ2 h2).W E:=λδ2 h2 i2=>
   Bv I xs (k+1) δ2 h2 i2 (λi y δ h hk hy=>step i y δ h (by omega) (by
    have:i-k=(i-(k+1))+1:=by omega
    rw[this,g7];exact hy)) (λδ h hi=>fin δ h (by
    have e:k+(x::xs).length=k+1+xs.length:=by simp;omega
    rw[e];exact hi))
  unfold gG;rw[if_pos h1,h2]
  show Fl.W (match body δ1 h with|.nx δ2 h2=>gG g tg body xs δ2 h2|.ct δ2 h2=>gG g tg body xs δ2 h2|.bk δ2 h2=>.nx δ2 h2|r=>r) E
  cases e:body δ1 h with
  |nx δ2 h2=>rw[e]at h3;exact go δ2 h2 h3
  |ct δ2 h2=>rw[e]at h3;exact go δ2 h2 h3
  |bk δ2 h2=>rw[e]at h3;exact h3
  |rt p h2=>rw[e]at h3;exact h3
  |exc=>rw[e]at h3;exact h3
  |bad=>rw[e]at h3;exact h3
theorem LZ{ms:Ma}{i:Nat}{body:Ms}{j:Int}(I:Nat->Ev->PH->Prop)(e:ms δ h=.ok [.int j] h)(hj:-4611686018427387904<=j/\j<4611686018427387904)(h0:I 0 δ h)
  (step:∀(q:Nat) δ h,(q:Int)<j->I q δ h->(body (δ.set i (some (.int q))) h).W { nx:=I (q+1),ct:=I (q+1),rt:=E.rt,bk:=E.nx })
  (fin:∀δ h,I j.toNat δ h->E.nx δ h):(kJ (kI ms) (gN i) body δ h).W E:=by
 unfold kJ kI;rw[e];have hj':-(2 ^ 62)<=j/\j<2 ^ 62:=hj;simp only[Rs.bind_ok,HE,if_pos hj',Rs.fl_ok];refine Bv I _ 0 δ h h0 (λq x δ h _ hx hi=>?_) (λδ h hi=>⟨rfl,fin δ h (by rw[eW,Nat.zero_add]at hi;exact hi)⟩);have hq:q<j.toNat:=by
  have:=(ab.mp hx).1;rw[eW]at this;omega
 rw[Nat.sub_zero,wA _ _ _ hq]at hx;cases hx
 refine⟨rfl,_,rfl,?_⟩;rw[Int.zero_add];exact step q δ h (by omega) hi
theorem M3{m:Me}{tg:Mg}{body:Ms}{xs:List PV}(I:Nat->Ev->PH->Prop)(e:m δ h=.ok (.tup xs) h\/m δ h=.ok (.fl xs) h)(h0:I 0 δ h)
  (step:∀(q:Nat) x δ h,xs[q]?=some x->I q δ h->∃δ1,tg x δ=some δ1/\(body δ1 h).W { nx:=I (q+1),ct:=I (q+1),rt:=E.rt,bk:=E.nx })
  (fin:∀δ h,I xs.length δ h->E.nx δ h):(kJ (aZ m) tg body δ h).W E:=by
 have go:(gG (λ_=>true) tg body xs δ h).W E:=Bv I _ 0 δ h h0 (λq x δ h _ hx hi=>⟨rfl,step q x δ h (by simpa using hx) hi⟩) (λδ h hi=>⟨rfl,fin δ h (by simpa using hi)⟩)
 unfold kJ aZ;rcases e with e|e <;> rw[e] <;> exact go
theorem sC{m:Me}{tg:Mg}{body:Ms}{n:Nat}{xs:List PV}{h1:PH}(I:Nat->Ev->PH->Prop)(e:m δ h=.ok (.ref n) h1)(hn:h1[n]?=some (.lst xs))(h0:I 0 δ h1)
  (keep:∀q δ h,q<=xs.length->I q δ h->h[n]?=some (.lst xs))
  (step:∀(q:Nat) x δ h,xs[q]?=some x->I q δ h->∃δ1,tg x δ=some δ1/\(body δ1 h).W { nx:=I (q+1),ct:=I (q+1),rt:=E.rt,bk:=E.nx })
  (fin:∀δ h,I xs.length δ h->E.nx δ h):(kJ (aZ m) tg body δ h).W E:=by
 have hk:∀{h:PH},h[n]?=some (.lst xs)->nE n xs h=true:=λ{h} e=>by
  have e3:aN h n=some xs:=by unfold aN;rw[e]
  unfold nE;rw[e3];exact PV.beqs_self xs
 unfold kJ aZ;rw[e];have e2:ofSeq (.ref n) h1=.ok ⟨xs,nE n xs⟩ h1:=by
  have e3:aN h1 n=some xs:=by unfold aN;rw[hn]
  unfold ofSeq;simp only[e3]
 rw[Rs.bind_ok,e2,Rs.fl_ok];refine Bv I _ 0 δ h1 h0 (λq x δ h _ hx hi=>?_) (λδ h hi=>?_)
 ·have hx':xs[q]?=some x:=by simpa using hx
  have:=(ab.mp hx').1;exact⟨hk (keep q δ h (by omega) hi),step q x δ h hx' hi⟩
 ·have hi':I xs.length δ h:=by simpa using hi
  exact⟨hk (keep _ δ h (ak _) hi'),fin δ h hi'⟩
theorem eY{N:Nat}{body:Ms}{args:List PV}{Q:PV->PH->Prop}(w:(body (args.map some++cj (N-args.length) none) h).W { nx:=λ_ h=>Q .non h,rt:=Q }):(mFn N body args h).W Q:=by
 unfold mFn;cases e:body (args.map some++cj (N-args.length) none) h with
 |nx δ h'=>rw[e]at w;exact w
 |rt p h'=>rw[e]at w;exact w
 |_=>rw[e]at w;exact w.elim
@[simp]theorem Yk{i:Nat}{p:PV}:gN i p δ=some (δ.set i (some p)):=(rfl)
@[simp]theorem XY{n:Nat}{u:Mgs}{ps:List PV}:gTp n u (.tup ps) δ=if ps.length=n then u ps δ else none:=(rfl)
@[simp]theorem XZ{t:Mg}{u:Mgs}{p:PV}{r:List PV}:gCn t u (p::r) δ=(t p δ).bind (u r):=(rfl)
@[simp]theorem Y0:gNl [] δ=some δ:=(rfl)
end
def Ext(h h':PH):Prop:=∀(n:Nat)(o:MO),h[n]?=some o->h'[n]?=some o
theorem Ext.refl(h:PH):Ext h h:=λ_ _ e=>e
theorem Ext.trans{h h1 h2:PH}(a:Ext h h1)(b:Ext h1 h2):Ext h h2:=λn o e=>b n o (a n o e)
theorem Ext.app(h g:PH):Ext h (h++g):=λn o e=>by
 rw[d4 (ab.mp e).1];exact e
theorem Ext.len{h h':PH}(e:Ext h h'):h.length<=h'.length:=by
 rcases Nat.lt_or_ge h'.length h.length with z|z
 ·have:h[h'.length]?=some h[h'.length]:=by simp[z]
  have:=(ab.mp (e _ _ this)).1;omega
 ·exact z
theorem aK{h:PH}{o:MO}:(h++[o])[h.length]?=some o:=by simp
theorem eC{h:PH}{n:Nat}{o o':MO}(e:h[n]?=some o):(h.set n o')[n]?=some o':=ir (ab.mp e).1
theorem eD{h:PH}{n m:Nat}{o o':MO}(e:h[m]?=some o)(d:n≠m):(h.set n o')[m]?=some o:=by rw[bg d];exact e
def PV.pl:Nat->PV->Bool
 |_,.non=>true
 |_,.int _=>true
 |_,.str _=>true
 |n+1,.tup xs=>xs.all (PV.pl n)
 |_,_=>false
theorem HH{x:PV}{xs:List PV}{d:D}{ds:List D}(h1:x.d=some d)(h2:PV.ds xs=some ds):PV.ds (x::xs)=some (d::ds):=by simp[PV.ds,h1,h2]
theorem W'{xs:List PV}{ds:List D}(h:PV.ds xs=some ds):(PV.tup xs).d=some (.tup ds):=by simp[PV.d,h]
theorem eE{xs:List PV}{d:D}(h:(PV.tup xs).d=some d):∃ds,PV.ds xs=some ds/\d=.tup ds:=by
 unfold PV.d at h;split at h
 ·rename_i ds e;cases h;exact⟨ds,e,rfl⟩
 ·cases h
theorem kM{x:PV}{xs:List PV}{ds:List D}(h:PV.ds (x::xs)=some ds):∃d r,x.d=some d/\PV.ds xs=some r/\ds=d::r:=by
 unfold PV.ds at h;split at h
 ·rename_i d r e1 e2;cases h;exact⟨d,r,e1,e2,rfl⟩
 ·cases h
theorem sD:∀(n:Nat)(x:PV),x.pl n=true->∃d,x.d=some d/\d.depth<=n:=by
 intro n
 induction n with
 |zero=>
  intro x h;cases x <;> first|exact⟨_,rfl,ak _⟩|(simp[PV.pl]at h)
 |succ n ih=>
  intro x h;cases x with
  |tup xs=>
   have h:xs.all (PV.pl n)=true:=h;have many:∀(xs:List PV),xs.all (PV.pl n)=true->∃ds,PV.ds xs=some ds/\D.depths ds<=n:=by
    intro xs
    induction xs with
    |nil=>intro _;exact⟨[],rfl,bw _⟩
    |cons x xs ihx=>
     intro h;simp only[jw,cw]at h;obtain⟨d,h1,h2⟩:=ih x h.1;obtain⟨ds,h3,h4⟩:=ihx h.2;refine⟨d::ds,HH h1 h3,?_⟩
     show max d.depth (D.depths ds)<=n
     omega
   obtain⟨ds,h1,h2⟩:=many xs h;refine⟨.tup ds,W' h1,?_⟩
   show D.depths ds+1<=n+1
   omega
  |_=>first|exact⟨_,rfl,bw _⟩|(simp[PV.pl]at h)
theorem M4:∀(n:Nat)(x y:PV)(d e:D),x.pl n=true->y.pl n=true->x.d=some d->y.d=some e->eqD d e=decide (x=y):=by
 intro n
 induction n with
 |zero=>
  intro x y d e hx hy h1 h2;cases x <;> first|(simp[PV.pl]at hx;done)|skip
  all_goals cases h1
  all_goals cases y <;> first|(simp[PV.pl]at hy;done)|skip
  all_goals cases h2
  all_goals simp only[eqD]
  all_goals rw[i6]
  all_goals simp
 |succ n ih=>
  intro x y d e hx hy h1 h2;have lists:∀(xs ys:List PV)(ds es:List D),xs.all (PV.pl n)=true->ys.all (PV.pl n)=true->PV.ds xs=some ds->PV.ds ys=some es->dX ds es=decide (xs=ys):=by
   intro xs
   induction xs with
   |nil=>
    intro ys ds es _ _ h1 h2;cases h1
    cases ys with
    |nil=>cases h2;rfl
    |cons y ys=>obtain⟨d,r,_,_,rfl⟩:=kM h2;simp[dX]
   |cons x xs ihx=>
    intro ys ds es hx hy h1 h2;obtain⟨d,r,g1,g2,rfl⟩:=kM h1;simp only[jw,cw]at hx;cases ys with
    |nil=>cases h2;simp[dX]
    |cons y ys=>
     obtain⟨e,q,g3,g4,rfl⟩:=kM h2;simp only[jw,cw]at hy;simp only[dX,ih x y d e hx.1 hy.1 g1 g3,ihx ys r q hx.2 hy.2 g2 g4];rw[i6];simp
  cases x with
  |tup xs=>
   obtain⟨ds,g1,rfl⟩:=eE h1;cases y with
   |tup ys=>
    obtain⟨es,g2,rfl⟩:=eE h2;simp only[eqD,lists xs ys ds es hx hy g1 g2];rw[i6];simp
   |non=>cases h2;simp[eqD]
   |int j=>cases h2;simp[eqD]
   |str j=>cases h2;simp[eqD]
   |_=>simp[PV.pl]at hy
  |non=>
   cases h1
   cases y with
   |tup ys=>obtain⟨es,g2,rfl⟩:=eE h2;simp[eqD]
   |non=>cases h2;simp[eqD]
   |int j=>cases h2;simp[eqD]
   |str j=>cases h2;simp[eqD]
   |_=>simp[PV.pl]at hy
  |int i=>
   cases h1
   cases y with
   |tup ys=>obtain⟨es,g2,rfl⟩:=eE h2;simp[eqD]
   |non=>cases h2;simp[eqD]
   |int j=>cases h2;simp only[eqD];rw[i6];simp
   |str j=>cases h2;simp[eqD]
   |_=>simp[PV.pl]at hy
  |str i=>
   cases h1
   cases y with
   |tup ys=>obtain⟨es,g2,rfl⟩:=eE h2;simp[eqD]
   |non=>cases h2;simp[eqD]
   |int j=>cases h2;simp[eqD]
   |str j=>cases h2;simp only[eqD];rw[i6];simp
   |_=>simp[PV.pl]at hy
  |_=>simp[PV.pl]at hx
section
variable{x y:PV}{h:PH}
theorem PP(hx:x.pl 40=true)(hy:y.pl 40=true):jA x y h=some (decide (x=y)):=by
 obtain⟨d,h1,h2⟩:=sD 40 x hx;obtain⟨e,h3,h4⟩:=sD 40 y hy;unfold jA;rw[h1,h3];simp only[h2,if_true,M4 40 x y d e hx hy h1 h3]
theorem M5(hx:x.pl 40=true)(hy:y.pl 40=true):vEq x y h=.ok (.bl (decide (x=y))) h:=by unfold vEq;rw[PP hx hy];rfl
@[simp]theorem Xb{i j:Int}:vEq (.int i) (.int j) h=.ok (.bl (decide (i=j))) h:=by rw[M5 rfl rfl];congr 2;simp
@[simp]theorem Xc{i j:Str}:vEq (.str i) (.str j) h=.ok (.bl (decide (i=j))) h:=by rw[M5 rfl rfl];congr 2;simp
theorem M6{ys:List PV}(hx:x.pl 39=true)(hy:ys.all (PV.pl 39)=true):vU x ys=some (decide (x∈ys)):=by
 have key:∀ys:List PV,ys.all (PV.pl 39)=true->∃ds,PV.ds ys=some ds/\D.depths ds<=39/\∀d,x.d=some d->(ds.any λe=>eqD e d)=decide (x∈ys):=by
  intro ys
  induction ys with
  |nil=>intro _;exact⟨[],rfl,bw _,λ_ _=>by simp⟩
  |cons y ys ih=>
   intro h;simp only[jw,cw]at h;obtain⟨e,h1,h2⟩:=sD 39 y h.1;obtain⟨ds,h3,h4,h5⟩:=ih h.2;refine⟨e::ds,HH h1 h3,?_,λd hd=>?_⟩
   ·show max e.depth (D.depths ds)<=39
    omega
   ·rw[k6,h5 d hd,M4 39 y x e d h.1 hx h1 hd,i6];simp only[Bool.or_eq_true,decide_eq_true_eq,ba];constructor
    ·rintro(h|h)
     ·exact .inl h.symm
     ·exact .inr h
    ·rintro(h|h)
     ·exact .inl h.symm
     ·exact .inr h
 obtain⟨d,h1,h2⟩:=sD 39 x hx;obtain⟨ds,h3,h4,h5⟩:=key ys hy;unfold vU;rw[h1,h3];simp only[show D.depths ds<=40 by omega,if_true,h5 d h1]
theorem wC{n:Nat}{ys:List PV}(e:h[n]?=some (.lst ys))(hx:x.pl 39=true)(hy:ys.all (PV.pl 39)=true):vV x (.ref n) h=.ok (.bl (!decide (x∈ys))) h:=by
 have e3:aN h n=some ys:=by unfold aN;rw[e]
 unfold vV Jd;simp only[e3,M6 hx hy];rfl
theorem Dc{n m:Nat}{xs ys:List PV}(e1:h[n]?=some (.lst xs))(e2:h[m]?=some (.lst ys))(hx:xs.all (PV.pl 39)=true)(hy:ys.all (PV.pl 39)=true):jA (.ref n) (.ref m) h=some (decide (xs=ys)):=by
 have e3:cT (.ref n) h=some xs:=by unfold cT aN;simp only[e1]
 have e4:cT (.ref m) h=some ys:=by unfold cT aN;simp only[e2]
 have hx':(PV.tup xs).pl 40=true:=hx;have hy':(PV.tup ys).pl 40=true:=hy;obtain⟨d,h1,h2⟩:=sD 40 _ hx';obtain⟨e,h3,h4⟩:=sD 40 _ hy';obtain⟨ds,g1,rfl⟩:=eE h1;obtain⟨es,g2,rfl⟩:=eE h3;have h5:=M4 40 _ _ _ _ hx' hy' h1 h3;have h2':D.depths ds+1<=40:=h2;have h5':dX ds es=decide (xs=ys):=by
  have:dX ds es=decide (PV.tup xs=PV.tup ys):=h5;rw[this,i6];simp
 unfold jA;have n1:(PV.ref n).d=none:=rfl;rw[n1];simp only[e3,e4,g1,g2,show D.depths ds<=40 by omega,if_true,h5']
theorem Bw{n m:Nat}{xs ys:List PV}(e1:h[n]?=some (.lst xs))(e2:h[m]?=some (.lst ys))(hx:xs.all (PV.pl 39)=true)(hy:ys.all (PV.pl 39)=true):vNe (.ref n) (.ref m) h=.ok (.bl (!decide (xs=ys))) h:=by unfold vNe;rw[Dc e1 e2 hx hy];rfl
end
end L2
namespace L2
section
variable{α:Type}{a b c d e f g:α}{r:List α}
theorem Bx{xs:List α}{v:α}(i:Nat)(h:xs[i]?=some v):atI xs (i:Int)=some v:=jY h
@[simp]theorem Yt:atI (a::r) 0=some a:=Bx 0 rfl
@[simp]theorem Yu:atI (a::b::r) 1=some b:=Bx 1 rfl
@[simp]theorem Yv:atI (a::b::c::r) 2=some c:=Bx 2 rfl
theorem PQ{xs:List α}{i:Int}(h:xs≠[]):∃v,atI xs (i%(xs.length:Int))=some v/\v∈xs:=by
 have h0:0<xs.length:=lg.mpr h;obtain⟨v,h1,h2⟩:=Th (xs:=xs) (i:=i%(xs.length:Int)) (ic _ (by omega)) (ie _ (by omega));exact⟨v,h1,cq h2⟩
end
end L2
namespace L2
open PySem PySem.Spec PyProof.Rows PySem.SeqAt
open PySem.AutoSeq1 (wpAny_loadPart')
open PySem.MeetsSeq PySem.MeetsSeq2 PySem.MeetsSeq3
def Wa(A:Around)(s:Shared)(v u:Value)(b:Bool):Prop:=∀(prog:Program)(w:World)(E:Value->Shared->Prop)(Q:Value->Shared->Prop),Q (.bool b) s->wpAny (model prog w) A (richCompare .Lt v u) Q E s
def Wb(A:Around)(s:Shared)(v u:Value)(d e:D):Prop:=EqAt A s v u (eqD d e)/\(eqD d e=false->∀b,ltD d e=some b->Wa A s v u b)
abbrev Ae(A:Around)(s:Shared):List Value->List Value->List D->List D->Prop:=λvs us ds es=>vs.length=ds.length/\us.length=es.length/\∀(j:Nat) v u d e,vs[j]?=some v->us[j]?=some u->ds[j]?=some d->es[j]?=some e->Wb A s v u d e
theorem Ae.tail{A:Around}{s:Shared}{v u:Value}{vs us:List Value}{d e:D}{ds es:List D}(h:Ae A s (v::vs) (u::us) (d::ds) (e::es)):Wb A s v u d e/\Ae A s vs us ds es:=
 ⟨h.2.2 0 v u d e rfl rfl rfl rfl,by have:=h.1;simpa using this,by have:=h.2.1;simpa using this,λj v u d e h1 h2 h3 h4=>h.2.2 (j+1) v u d e (by simpa using h1) (by simpa using h2) (by simpa using h3) (by simpa using h4)⟩
theorem By(l b:Addr)(items items2:Array Value)(n n2:Nat)(dd dd2:Option Addr)(sl sl2:Array (Option Value))(ds es:List D)(c:Bool)(hc:Bf ds es=some c):
  Meets (Builtin.«tuple.__lt__» ⟨[.ref l,.ref b],[]⟩)
   (λA R s=>s.heap.get? l=some { cls:=.type "tuple",dict:=dd,data:=.seq items n,slots:=sl }/\s.heap.get? b=some { cls:=.type "tuple",dict:=dd2,data:=.seq items2 n2,slots:=sl2 }/\
    Ae A.in1 s items.toList items2.toList ds es/\R (.ok (.ret (.bool c))) s):=
 .of_wp λprog w A R s h=>by
  obtain⟨hp,g,d,tk,os⟩:=s;obtain⟨hl,hb,hit,h⟩:=h;have f2:=AutoSeq1.sub_tuple_tuple;have z1:items.size=ds.length:=by rw[<-hit.1];simp
  have z2:items2.size=es.length:=by rw[<-hit.2.1];simp
  wp_walk using wpAny_loadPart' hl,wpAny_loadPart' hb,lj _ (λrest b s'=>b.1=none/\s'=⟨hp,g,d,tk,os⟩/\∃(vs ws:List Value)(ns' ms':List D),rest=vs.zip ws/\
   Ae A.in1 ⟨hp,g,d,tk,os⟩ vs ws ns' ms'/\ns'.length+items2.size=ms'.length+items.size/\Bf ns' ms'=some c) _
  case turn=>
   rintro⟨y,x⟩ rest b s' ⟨hb',rfl,vs,ws,ns',ms',hz,hvi,hlen,hR⟩;cases vs with
   |nil=>rw[List.zip_nil_left]at hz;cases hz
   |cons v vs=>
    cases ws with
    |nil=>rw[List.zip_nil_right]at hz;cases hz
    |cons u ws=>
     rw[List.zip_cons_cons]at hz;injection hz with hyx hrest;injection hyx with hy hx;subst hy hx;cases ns' with
     |nil=>have:=hvi.1;simp at this
     |cons a ns'=>
      cases ms' with
      |nil=>have:=hvi.2.1;simp at this
      |cons e ms'=>
       obtain⟨⟨h1,h2⟩,ht⟩:=Ae.tail hvi;simp only[dg]at hlen;simp only[Bf]at hR;refine aa (h1 prog w _ _ ?_);cases q:eqD a e with
       |true=>
        rw[q,if_pos rfl]at hR
        wp_walk
        exact⟨rfl,rfl,_,_,_,_,hrest,ht,by omega,hR⟩
       |false=>
        rw[q,if_neg cb]at hR;have hri:=h2 q c hR prog w
        wp_walk using hri
        exact⟨_,rfl,by simpa using h⟩
  case fin=>
   rintro⟨b1,b2⟩ s' ⟨hb',rfl,vs,ws,ns',ms',hz,hvi,hlen,hR⟩;simp only at hb';subst hb';have hv:c=decide (items.size<items2.size):=by
    cases ns' with
    |nil=>
     cases ms' with
     |nil=>
      simp only[List.length_nil]at hlen;simp only[Bf]at hR;cases hR
      exact(decide_eq_false (by omega)).symm
     |cons e ms'=>
      simp only[List.length_nil,dg]at hlen;simp only[Bf]at hR;cases hR
      exact(decide_eq_true (by omega)).symm
    |cons a ns'=>
     cases ms' with
     |nil=>
      simp only[List.length_nil,dg]at hlen;simp only[Bf]at hR;cases hR
      exact(decide_eq_false (by omega)).symm
     |cons e ms'=>
      exfalso;cases vs with
      |nil=>have:=hvi.1;simp at this
      |cons v vs=>
       cases ws with
       |nil=>have:=hvi.2.1;simp at this
       |cons u ws=>rw[List.zip_cons_cons]at hz;cases hz
   rw[hv]at h
   wp_walk
   exact⟨_,rfl,by simpa[Builtin.Tuple.tupleCompareSizes] using h⟩
  case h=>
   exact⟨rfl,rfl,items.toList,items2.toList,ds,es,rfl,hit,by omega,hc⟩
section
variable{X:Cx}{pins:List (Addr×Obj)}{σ:St}{H:Hp}{s:Shared}
theorem Y1(I:Inv X pins σ H s):∀(n:Nat)(d e:D)(A:Around)(x y:V)(v u:Value)(b:Bool),d.depth<=n->A.units+n<cLine->Rep X.K H d x->Rep X.K H e y->RelV x v->RelV y u->ltD d e=some b->Wa A s v u b:=by
 intro n
 induction n with
 |zero=>
  intro d e A x y v u b hd hu hx hy rx ry hb;cases d with
  |tup ds=>exact absurd hd (by show ¬ D.depths ds+1<=0;omega)
  |int i=>
   cases e with
   |int j=>
    cases hx;cases hy;obtain⟨t,rfl⟩:=rx;obtain⟨t',rfl⟩:=ry;simp only[ltD]at hb;cases hb
    exact λprog w E Q q=>(PyProof.Rows.lt_int q:wpAny (model prog w) A (c9 .Lt _ _) Q E s)
   |_=>simp[ltD]at hb
  |str i=>
   cases e with
   |str j=>
    cases hx;cases hy;obtain⟨t,rfl⟩:=rx;obtain⟨t',rfl⟩:=ry;simp only[ltD]at hb;cases hb
    exact λprog w E Q q=>(PyProof.Rows.lt_str q:wpAny (model prog w) A (c9 .Lt _ _) Q E s)
   |_=>simp[ltD]at hb
  |_=>cases e <;> simp[ltD]at hb
 |succ n ih=>
  intro d e A x y v u b hd hu hx hy rx ry hb
  by_cases h0:d.depth<=n
  ·exact ih d e A x y v u b h0 (by omega) hx hy rx ry hb
  ·cases d with
   |tup ds=>
    cases e with
    |tup es=>
     have hds:D.depths ds<=n:=by have:D.depths ds+1<=n+1:=hd;omega
     obtain⟨a,vs,rfl,q,r⟩:=hx;cases rx
     obtain⟨its,rv,p,_⟩:=I.tuple q;obtain⟨a',vs',rfl,q',r'⟩:=hy;cases ry
     obtain⟨its',rv',p',_⟩:=I.tuple q';have hb':Bf ds es=some b:=by simpa[ltD] using hb
     obtain⟨⟨cls,dd,data,sl⟩,ho,hc,m,hdt⟩:=id p;obtain⟨⟨cls2,dd2,data2,sl2⟩,ho2,hc2,m2,hd2⟩:=id p';simp only at hc hdt hc2 hd2;subst hc hdt hc2 hd2;intro prog w E Q hq;refine richCompare_meets_room (op:=.Lt) ⟨_,ho,rfl⟩ ⟨_,ho2,rfl⟩ PySem.F.slot_tuple_lt PySem.F.entry_tuple_lt (PySem.F.args_tuple_lt_2 _ _) (By a a' its.toArray its'.toArray m m2 dd dd2 sl sl2 ds es b hb')
      ⟨ho,ho2,⟨?_,?_,?_⟩,show Value.bool b≠Value.notImplemented/\Q (.bool b) s from⟨(λx=>nomatch x),hq⟩⟩ (by omega)
     ·have l1:=r.length;have l3:=rv.length
      show its.length=ds.length
      omega
     ·have l1:=r'.length;have l3:=rv'.length
      show its'.length=es.length
      omega
     ·intro j v u d e h1 h2 h3 h4;obtain⟨xv,hxv,hrx⟩:=r.at h3;obtain⟨yv,hyv,hry⟩:=r'.at h4;obtain⟨xu,hxu,hru⟩:=rv.get hxv;obtain⟨yu,hyu,hru'⟩:=rv'.get hyv;have e1:v=xu:=by
       have:its[j]?=some v:=h1;rw[hxu]at this;exact(bq this).symm
      have e2:u=yu:=by
       have:its'[j]?=some u:=h2;rw[hyu]at this;exact(bq this).symm
      subst e1 e2;have hdj:=D.depths_le h3;refine⟨Lo I (n:=n) (by omega) ?_ hrx hry hru hru',λ_ b hb=>ih d e _ xv yv v u b (by omega) ?_ hrx hry hru hru' hb⟩
      all_goals (show A.units+1+n<cLine;omega)
    |_=>simp[ltD]at hb
   |_=>exact absurd (bw n) h0
end
variable{C:MC}{k:Nat}{X:Cx}
def PR(x y:PV):Option Bool:=match x.d,y.d with
 |some d,some e=>if d.depth<=40 then ltD d e else none
 |_,_=>none
def tW:PV->PV->PH->Rs PV:=λx y h=>match x,y with
 |.tup xs,.tup ys=>ofB (PR (.tup xs) (.tup ys)) h
 |x,y=>vLt x y h
theorem TK(hu:X.A.units+64<cLine)(K:ah)(hK:X.K=K):OpR X (c9 .Lt) (λx y H Q=>∃d e b,Rep K H d x/\Rep K H e y/\d.depth<=40/\ltD d e=some b/\Q (.bl b) H):=by
 subst hK;intro pins s σ H x y v u Q I rx ry h;obtain⟨d,e,b,hx,hy,hd,hb,q⟩:=h;exact Y1 I 40 d e X.A x y v u b hd (by omega) hx hy rx ry hb X.prog X.w X.xe _ ⟨.bl _,H,I,rfl,q⟩
theorem Bz:OpS C k X (c9 .Lt) tW:=λc=>((TK c.hu64 C.K c.K).or (XI c)).imp λx y H Q h=>by
 obtain⟨φ,h,p,q,rh,rx,ry,po⟩:=h;unfold tW at po;split at po
 ·obtain⟨b,e,po⟩:=po.ofB;unfold PR at e;split at e
  ·rename_i d e' h1 h2;split at e
   ·rename_i hd;exact .inl ⟨d,e',b,rx.rep h1,ry.rep h2,hd,e,po.val rh rfl⟩
   ·cases e
  ·cases e
 ·exact .inr ⟨φ,h,p,q,rh,rx,ry,po⟩
section
variable{h:PH}
@[simp]theorem UX{i j:Int}:tW (.int i) (.int j) h=.ok (.bl (decide (i<j))) h:=(rfl)
@[simp]theorem UY{i j:Str}:tW (.str i) (.str j) h=.ok (.bl (decide (i.cps.toList<j.cps.toList))) h:=(rfl)
def ltL(f:PV->PV->Option Bool):List PV->List PV->Option Bool
 |[],[]=>some false
 |[],_::_=>some true
 |_::_,[]=>some false
 |x::xs,y::ys=>if x=y then ltL f xs ys else f x y
def ltP:Nat->PV->PV->Option Bool
 |_,.int a,.int b=>some (decide (a<b))
 |_,.str a,.str b=>some (decide (a.cps.toList<b.cps.toList))
 |n+1,.tup xs,.tup ys=>ltL (ltP n) xs ys
 |_,_,_=>none
end
end L2
namespace L2
open PySem PySem.Spec PyProof.Rows
variable{C:MC}{k:Nat}{X:Cx}
theorem Fq{M:Program×World}{A:Around}{E:Value->Shared->Prop}{s:Shared}{l:Addr}{items:Array Value}{Q:Value->Shared->Prop}(hl:s.heap.IsList l items)
  (h:∀s₂:Shared,s₂={ s with heap:=s.heap.push { cls:=.type "list_iterator",data:=.fields #[.ref l,.int 0 0] } }->
   (s₂.heap.IsListIter s.heap.objs.size l 0/\s₂.heap.IsList l items)->(∀b∈[s.heap.objs.size,l],b<s₂.heap.objs.size)->l≠s.heap.objs.size->Q (.ref s.heap.objs.size) s₂):
  wpAny (model M.1 M.2) A (pyIter (.ref l)) Q E s:=by
 have hlt:l<s.heap.objs.size:=by obtain⟨_,e,_⟩:=hl;exact ax e
 refine kh hl (h _ rfl ⟨⟨_,a7 _ rfl,rfl,rfl⟩,hl.push _⟩ (λb hb=>?_) (a9 hlt))
 show b<(s.heap.push _).objs.size
 rw[lu];rcases ba.mp hb with rfl|hb
 ·exact Nat.lt_succ_self _
 ·rcases ba.mp hb with rfl|hb
  ·exact Nat.lt_succ_of_lt hlt
  ·cases hb
theorem Jj:Cxt C k X->bO X (.builtin "sum") (λxs H Q=>∃(p:Addr)(ns:List Int),xs=[.ref p]/\SqL C.K H p (ns.map V.int)/\Q (.int ns.sum) H):=λc=>by
 intro pins s σ H xs us Q I r h;obtain⟨p,ns,rfl,hq,q⟩:=h;obtain⟨u,rfl,ru⟩:=vals1 r;cases ru
 rw[<-c.K]at hq;obtain⟨its,rv,pl,hz⟩:=I.list hq;have hi:IntsAre its ns:=intsAre_of rv;obtain⟨ys,hy⟩:=hi.allInts.items;have hl:=pl.isList;rw[hy]at hl;refine sum_intListG (I.ok.hd c.calm) hl λh' tk t' hk=>?_;have e:preSum (numAt ys) ys.size=ns.sum:=by
  have e1:=preSum_eq ys ys.size;rw[l0 (by simp)]at e1;rw[e1,<-nums_intItems,<-hy];have:=hi.numsOf;rw[show its.toArray.toList=its from rfl,this]
 rw[e];exact⟨.int ns.sum,H,I.kept hk,⟨_,rfl⟩,q⟩
theorem Jk(hc:X.calm=true)(K:ah)(hK:X.K=K):bO X (.builtin "all") (λxs H Q=>∃(p:Addr)(bs:List Bool),xs=[.ref p]/\SqL K H p (bs.map V.bl)/\Q (.bl (bs.all id)) H):=by
 subst hK;intro pins s σ H xs us Q I r h;obtain⟨p,bs,rfl,hq,q⟩:=h;obtain⟨u,rfl,ru⟩:=vals1 r;cases ru
 obtain⟨its,rv,pl,hz⟩:=I.list hq;have hlen:=rv.length;rw[af]at hlen;refine call_all_walk (Fq (M:=(X.prog,X.w)) pl.isList λs₂ e st hfp hlI=>?_);subst e;refine⟨_,_,_,_,_,_,λi=>(bs[i]?).getD true,rfl,Walks.list (A:=X.A.in1) (I.ok.hd hc) _ p hlI its.toArray,st,?_,λh' tk hk=>?_⟩
 ·intro i v s' Q' E' hP hQ;have hP':its[i]?=some v:=by simpa using hP
  obtain⟨hi,_⟩:=ab.mp hP';have hb:i<bs.length:=by omega
  obtain⟨u,hu,ru⟩:=rv.get (show(bs.map V.bl)[i]?=some (.bl bs[i]) by simp[hb]);rw[hP']at hu;cases hu
  cases ru
  refine iz ?_;have:(bs[i]?).getD true=bs[i]:=by simp[hb]
  rw[<-this];exact hQ
 ·have e:((av its.toArray.size).all λi=>(bs[i]?).getD true)=bs.all id:=by
   have hs:its.toArray.size=bs.length:=by simp[hlen]
   rw[hs,i6,bz,bz];constructor
   ·intro h b hb;obtain⟨i,hi,rfl⟩:=List.mem_iff_getElem.mp hb;have:=h i (e8.mpr hi);simpa[hi] using this
   ·intro h i hi;have hi':=e8.mp hi;have:=h bs[i] (dr hi');simpa[hi'] using this
  rw[e];exact⟨.bl _,H,I.kept (old_kept hk),rfl,q⟩
def tX:List PV->Option (List Int)
 |[]=>some []
 |.int i::r=>(tX r).map (i::·)
 |_::_=>none
def Jl:List PV->Option (List Bool)
 |[]=>some []
 |.bl i::r=>(Jl r).map (i::·)
 |_::_=>none
theorem uW{φ:List Addr}{H:Hp}:∀{xs:List PV}{vs:List V}{ns:List Int},RVs C φ H xs vs->tX xs=some ns->vs=ns.map V.int
 |[],[],_,_,e=>by cases e;rfl
 |x::xs,v::vs,ns,⟨h,r⟩,e=>by
  cases x with
  |int i=>
   cases h
   simp only[tX,bc]at e;obtain⟨m,e,rfl⟩:=e;rw[uW r e];rfl
  |_=>cases e
 |[],_::_,_,h,_=>h.elim
 |_::_,[],_,h,_=>h.elim
theorem M7{φ:List Addr}{H:Hp}:∀{xs:List PV}{vs:List V}{ns:List Bool},RVs C φ H xs vs->Jl xs=some ns->vs=ns.map V.bl
 |[],[],_,_,e=>by cases e;rfl
 |x::xs,v::vs,ns,⟨h,r⟩,e=>by
  cases x with
  |bl i=>
   cases h
   simp only[Jl,bc]at e;obtain⟨m,e,rfl⟩:=e;rw[M7 r e];rfl
  |_=>cases e
 |[],_::_,_,h,_=>h.elim
 |_::_,[],_,h,_=>h.elim
theorem Af(ns:List Int):tX (ns.map PV.int)=some ns:=by
 induction ns with
 |nil=>rfl
 |cons n ns ih=>simp[tX,ih]
theorem M8(ns:List Bool):Jl (ns.map PV.bl)=some ns:=by
 induction ns with
 |nil=>rfl
 |cons n ns ih=>simp[Jl,ih]
def M9:List PV->PH->Rs PV:=λxs h=>match xs with
 |[x]=>match cT x h with
  |some ys=>match tX ys with
   |some ns=>.ok (.int ns.sum) h
   |none=>.bad
  |none=>.bad
 |_=>.bad
def Mb:List PV->PH->Rs PV:=λxs h=>match xs with
 |[x]=>match cT x h with
  |some ys=>match Jl ys with
   |some ns=>.ok (.bl (ns.all id)) h
   |none=>.bad
  |none=>.bad
 |_=>.bad
theorem Wc:gU C k X (.builtin "sum") M9:=λc=>(Jj c).imp λvs H Q h=>by
 obtain⟨φ,h,ps,rh,rv,po⟩:=h;unfold M9 at po;split at po
 ·obtain⟨v,rfl,rx⟩:=rv.one;split at po
  ·rename_i ys e;split at po
   ·rename_i ns en;obtain⟨a,vs,rfl,sa,ra⟩:=dJ rh rx e;rw[uW ra en]at sa;exact⟨a,ns,rfl,sa,po.val rh rfl⟩
   ·exact po.elim
  ·exact po.elim
 ·exact po.elim
theorem Wd:gU C k X (.builtin "all") Mb:=λc=>(Jk c.calm C.K c.K).imp λvs H Q h=>by
 obtain⟨φ,h,ps,rh,rv,po⟩:=h;unfold Mb at po;split at po
 ·obtain⟨v,rfl,rx⟩:=rv.one;split at po
  ·rename_i ys e;split at po
   ·rename_i ns en;obtain⟨a,vs,rfl,sa,ra⟩:=dJ rh rx e;rw[M7 ra en]at sa;exact⟨a,ns,rfl,sa,po.val rh rfl⟩
   ·exact po.elim
  ·exact po.elim
 ·exact po.elim
theorem Df{h:PH}{n:Nat}{ns:List Int}(e:h[n]?=some (.lst (ns.map PV.int))):M9 [.ref n] h=.ok (.int ns.sum) h:=by
 have e1:cT (.ref n) h=some (ns.map PV.int):=by unfold cT aN;simp only[e]
 unfold M9;simp only[e1,Af]
theorem Mc{h:PH}{n:Nat}{ns:List Bool}(e:h[n]?=some (.lst (ns.map PV.bl))):Mb [.ref n] h=.ok (.bl (ns.all id)) h:=by
 have e1:cT (.ref n) h=some (ns.map PV.bl):=by unfold cT aN;simp only[e]
 unfold Mb;simp only[e1,M8]
open Classical in
noncomputable def Jm:PV->PV->PH->Rs PV:=λx y h=>match x,y with
 |.str z,.int n=>if z.length<=16/\-(2 ^ 63)<=n/\n<=1000 then .ok (.str (Txt.mul z n)) h else .bad
 |_,_=>.bad
theorem Sb:OpS C k X (fv .Mult) Jm:=λc=>by
 intro pins s σ H x y v u Q I rx ry h;obtain⟨φ,h,p,q,rh,rp,rq,po⟩:=h;unfold Jm at po;split at po
 ·cases rp;cases rq;obtain⟨t,rfl⟩:=rx;obtain⟨t',rfl⟩:=ry;obtain⟨⟨h1,h2,h3⟩,po⟩:=po.ite;refine PySem.W.KXi.mul rfl h1 h2 (by omega) λt'' tk _ _=>⟨.str _,H,I.tok _,⟨_,rfl⟩,po.val rh rfl⟩
 ·exact po.elim
end L2
namespace L2
open PySem
section
variable{h:PH}{lo hi:Option Int}
@[simp]theorem Xd{xs:List PV}:vSl (.tup xs) lo hi h=.ok (.tup (jW xs lo hi)) h:=(rfl)
@[simp]theorem Y2{xs:List PV}:vSl (.fl xs) lo hi h=.ok (.ref h.length) (h++[.lst (jW xs lo hi)]):=(rfl)
theorem HI{n:Nat}{xs:List PV}(e:h[n]?=some (.lst xs)):vSl (.ref n) lo hi h=.ok (.ref h.length) (h++[.lst (jW xs lo hi)]):=by
 have e3:aN h n=some xs:=by unfold aN;rw[e]
 unfold vSl;simp only[e3]
@[simp]theorem Y3{a b:Bool}:vIs (.bl a) (.bl b) h=.ok (.bl (a == b)) h:=(rfl)
@[simp]theorem UZ{a b:Bool}:vX (.bl a) (.bl b) h=.ok (.bl (!(a == b))) h:=(rfl)
@[simp]theorem Xe{x:PV}:vIs x .non h=.ok (.bl (kE x)) h:=(rfl)
@[simp]theorem TL{x:PV}:vX x .non h=.ok (.bl (!kE x)) h:=(rfl)
end
section
variable{δ:Ev}{h h1:PH}{js:List (Option Nat)}{tg:Mg}{tst:Ev->PH->Rs Bool}{elt:Me}{g:PH->Bool}{n:Nat}
theorem pO{δ0:Ev}{Q:PV->PH->Prop}(I:Nat->PH->Prop):∀(xs:List PV)(k:Nat)(h:PH),I k h->
  (∀i x h,k<=i->xs[i-k]?=some x->I i h->g h=true/\∃δ1,tg x δ0=some δ1/\(tst δ1 h).W λb h'=>if b=true then(elt δ1 h').W λp h''=>∃ys,h''[n]?=some (.lst ys)/\ys.length<16777216/\I (i+1) (h''.set n (.lst (ys++[p]))) else I (i+1) h')->
  (∀h,I (k+xs.length) h->g h=true/\Q (.ref n) h)->(jS g tg tst elt δ0 n xs h).W Q
 |[],k,h,i0,_,fin=>by
  obtain⟨h1,h2⟩:=fin h i0;simp[jS,h1,h2]
 |x::xs,k,h,i0,step,fin=>by
  obtain⟨h1,δ1,h2,h3⟩:=step k x h (ak _) (by simp) i0;have go:∀h2,I (k+1) h2->(jS g tg tst elt δ0 n xs h2).W Q:=λh2 i2=>
   pO I xs (k+1) h2 i2 (λi y h hk hy=>step i y h (by omega) (by
    have:i-k=(i-(k+1))+1:=by omega
    rw[this,g7];exact hy)) (λh hi=>fin h (by
    have e:k+(x::xs).length=k+1+xs.length:=by simp;omega
    rw[e];exact hi))
  unfold jS;rw[if_pos h1,h2]
  show(Rs.bind (tst δ1 h) _).W Q
  rw[Bu];refine LW h3 λb h' hb=>?_;cases b with
  |false=>exact go h' (by simpa using hb)
  |true=>
   show(Rs.bind (elt δ1 h') _).W Q
   rw[Bu];refine LW (show(elt δ1 h').W _ from by simpa using hb) λp h'' hp=>?_
   obtain⟨ys,e,hz,hi⟩:=hp;have e':dE h'' n=some ys:=by unfold dE;rw[e]
   simp[e',hz];exact go _ hi
theorem sE{α:Type}{mi:Mi}{ys:List α}{emb:α->PV}(f:α->Option PV)(e:mi δ h=.ok ⟨ys.map emb,g⟩ h1)(hg:∀h,Ext h1 h->g h=true)(hz:ys.length<=16777216)
  (step:∀y∈ys,∃δ1,tg (emb y) (bX js δ)=some δ1/\∀h,Ext h1 h->match f y with
   |none=>tst δ1 h=.ok false h
   |some p=>tst δ1 h=.ok true h/\elt δ1 h=.ok p h):bB js mi tg tst elt δ h=.ok (.ref h1.length) (h1++[.lst (ys.filterMap f)]):=by
 have w:(bB js mi tg tst elt δ h).W λp h'=>p=.ref h1.length/\h'=h1++[.lst (ys.filterMap f)]:=by
  unfold bB;rw[e,Rs.bind_ok];refine pO (λi h'=>h'=h1++[.lst ((ys.take i).filterMap f)]) (ys.map emb) 0 _ (by simp) (λi x h' _ hx hi=>?_) (λh' hi=>?_)
  ·subst hi;have hx:(ys.map emb)[i]?=some x:=by simpa using hx
   rw[au]at hx;obtain⟨y,hy,rfl⟩:=bc.mp hx;have hil:=(ab.mp hy).1;obtain⟨δ1,ht,hs⟩:=step y (cq hy);have hs:=hs (h1++[.lst ((ys.take i).filterMap f)]) (Ext.app _ _);have htk:ys.take (i+1)=ys.take i++[y]:=by rw[fq,hy];rfl
   refine⟨hg _ (Ext.app _ _),δ1,ht,?_⟩;cases ef:f y with
   |none=>
    rw[ef]at hs;rw[hs];simp[htk,ef]
   |some p=>
    rw[ef]at hs;rw[hs.1];simp[hs.2];refine⟨?_,by simp[htk,ef]⟩;have:=List.length_filterMap_le f (ys.take i);rw[eu]at this;omega
  ·subst hi;simp;exact hg _ (Ext.app _ _)
 obtain⟨p,h',e,rfl,rfl⟩:=gH w;exact e
theorem cW{m:Me}{xs:List PV}(e:m δ h=.ok (.ref n) h1)(hn:h1[n]?=some (.lst xs)):aZ m δ h=.ok ⟨xs,nE n xs⟩ h1:=by
 unfold aZ;have e3:aN h1 n=some xs:=by unfold aN;rw[hn]
 rw[e,Rs.bind_ok];unfold ofSeq;simp only[e3]
theorem cH{xs:List PV}(hn:h1[n]?=some (.lst xs)):∀h,Ext h1 h->nE n xs h=true:=λh hx=>by
 have e3:aN h n=some xs:=by unfold aN;rw[hx _ _ hn]
 unfold nE;rw[e3];exact PV.beqs_self xs
theorem Md{m:Me}{xs:List PV}(e:m δ h=.ok (.tup xs) h1):aZ m δ h=.ok ⟨xs,λ_=>true⟩ h1:=by
 unfold aZ;rw[e];rfl
theorem cX{α:Type}{m:Me}{ys:List α}{emb:α->PV}(f:α->Option PV)(e:m δ h=.ok (.ref n) h1)(hn:h1[n]?=some (.lst (ys.map emb)))(hz:ys.length<=16777216)
  (step:∀y∈ys,∃δ1,tg (emb y) (bX js δ)=some δ1/\∀h,Ext h1 h->match f y with
   |none=>tst δ1 h=.ok false h
   |some p=>tst δ1 h=.ok true h/\elt δ1 h=.ok p h):bB js (aZ m) tg tst elt δ h=.ok (.ref h1.length) (h1++[.lst (ys.filterMap f)]):=
 sE f (cW e hn) (cH hn) hz step
theorem Ag{α:Type}{m:Me}{ys:List α}{emb:α->PV}(f:α->Option PV)(e:m δ h=.ok (.tup (ys.map emb)) h1)(hz:ys.length<=16777216)
  (step:∀y∈ys,∃δ1,tg (emb y) (bX js δ)=some δ1/\∀h,Ext h1 h->match f y with
   |none=>tst δ1 h=.ok false h
   |some p=>tst δ1 h=.ok true h/\elt δ1 h=.ok p h):bB js (aZ m) tg tst elt δ h=.ok (.ref h1.length) (h1++[.lst (ys.filterMap f)]):=
 sE f (Md e) (λ_ _=>rfl) hz step
theorem Dg(lo:Int):∀n,upTo lo n=(av n).map (λ(i:Nat)=>PV.int (lo+(i:Int)))
 |0=>rfl
 |n+1=>by
  rw[upTo,Dg (lo+1) n,List.range_succ_eq_map,a8,cu]
  congr 1
  ·simp
  ·apply d8;intro a _;simp only[Function.comp_def]
   congr 1
   omega
theorem Dh{ms:Ma}{j:Int}(f:Nat->Option PV)(e:ms δ h=.ok [.int j] h1)(hj:-4611686018427387904<=j/\j<16777216)
  (step:∀i:Nat,(i:Int)<j->∃δ1,tg (.int i) (bX js δ)=some δ1/\∀h,Ext h1 h->match f i with
   |none=>tst δ1 h=.ok false h
   |some p=>tst δ1 h=.ok true h/\elt δ1 h=.ok p h):bB js (kI ms) tg tst elt δ h=.ok (.ref h1.length) (h1++[.lst ((av j.toNat).filterMap f)]):=by
 refine sE (emb:=λi:Nat=>.int ((0:Int)+i)) (g:=λ_=>true) f ?_ (λ_ _=>rfl) (by simp;omega) (λi hi=>?_)
 ·unfold kI;rw[e];have hj':-(2 ^ 62)<=j/\j<2 ^ 62:=⟨hj.1,by omega⟩;simp only[Rs.bind_ok,HE,if_pos hj'];rw[Dg]
 ·have hi':=e8.mp hi;rw[Int.zero_add];exact step i (by omega)
theorem filterMap_some{α β:Type}(f:α->β)(xs:List α):xs.filterMap (λx=>some (f x))=xs.map f:=by
 induction xs with
 |nil=>rfl
 |cons x xs ih=>simp[ih]
end
end L2
namespace L2
open PySem PySem.Spec PyProof.Rows
section
variable{X:Cx}{pins:List (Addr×Obj)}{σ:St}{H:Hp}{s:Shared}{C:MC}{φ:List Addr}
mutual
theorem HJ(I:Inv X pins σ H s)(hK:X.K=C.K):∀(n:Nat){p:PV}{v:V}{u:Value},p.ky n=true->RV C φ H p v->RelV v u->HR s.heap p u
 |_,.int i,v,u,_,r,ru=>by cases r;exact ru
 |_,.str i,v,u,_,r,ru=>by cases r;exact ru
 |n+1,.tup ps,v,u,hk,r,ru=>by
  obtain⟨a,vs,rfl,q,rs⟩:=r;cases ru
  rw[<-hK]at q;obtain⟨its,rv,p,_⟩:=I.tuple q;exact⟨a,its,rfl,p,HK I hK n (bz.mp hk) rs rv⟩
 |0,.tup _,_,_,hk,_,_=>by cases hk
 |n,.non,_,_,hk,_,_=>by cases n <;> cases hk
 |n,.bl _,_,_,hk,_,_=>by cases n <;> cases hk
 |n,.ref _,_,_,hk,_,_=>by cases n <;> cases hk
 |n,.ty _,_,_,hk,_,_=>by cases n <;> cases hk
 |n,.fl _,_,_,hk,_,_=>by cases n <;> cases hk
theorem HK(I:Inv X pins σ H s)(hK:X.K=C.K):∀(n:Nat){ps:List PV}{vs:List V}{us:List Value},(∀p∈ps,p.ky n=true)->RVs C φ H ps vs->aO vs us->HRs s.heap ps us
 |_,[],[],us,_,_,ru=>by cases ru;trivial
 |n,p::ps,v::vs,us,hk,r,ru=>by
  cases ru with
  |cons h t=>exact⟨HJ I hK n (hk p ai) r.1 h,HK I hK n (λq hq=>hk q (aj _ hq)) r.2 t⟩
 |_,[],_::_,_,_,r,_=>r.elim
 |_,_::_,[],_,_,r,_=>r.elim
end
abbrev wD:List (PV×Addr×V)->List (PV×Addr×Value)->Prop:=Paired λp q=>p.1=q.1/\p.2.1=q.2.1/\RelV p.2.2 q.2.2
def HD(C:MC)(φ:List Addr)(H:Hp)(X:Cx)(s:Shared)(a:Addr)(kvs:List (PV×PV)):Prop:=
 ∃ks xs,RKd C φ H kvs ks/\wD ks xs/\xs.length<=aw/\(a == f6)=false/\s.heap.DictOfH (kC X.prog X.w) a xs
def cJ(h:PH)(n:Nat):Option (List (PV×PV)):=match h[n]? with
 |some (.dD kvs)=>some kvs
 |some (.dK [])=>some []
 |_=>none
def PV.isKt:PV->Bool
 |.tup xs=>(PV.tup xs).ky 6
 |_=>false
theorem jF{p:PV}(h:p.isKt=true):p.ky 6=true:=by cases p <;> first|exact h|cases h
theorem jG{p:PV}{v:V}(h:p.isKt=true)(r:RV C φ H p v):∃b,v=.ref b:=by
 cases p <;> first|(obtain⟨b,_,e,_⟩:=r;exact⟨b,e⟩)|cases h
theorem wF{h:PH}{n:Nat}{a:Addr}{kvs:List (PV×PV)}(I:Inv X pins σ H s)(hK:X.K=C.K)(hw:X.w=C.w)(rh:RH C φ H h)(ha:φ[n]?=some a)(e:cJ h n=some kvs):HD C φ H X s a kvs/\Mut (H a)/\CU (H a):=by
 unfold cJ at e;split at e
 ·rename_i kv hk;cases e
  obtain⟨ks,hH,r⟩:=rh.at' n a _ ha hk;have hO:cK X.prog X.w H s.heap a (dDO C.w a ks):=I.hok a _ hH;obtain⟨⟨hz,hm,xs,rx,o,es,ep,h1,h2,h3,h4,h5⟩,_⟩:=hO;refine⟨⟨ks,xs,r,rx,by rw[<-fj rx];exact hz,hm,o,es,ep,h1,h2,h3,?_,?_,h5⟩,by rw[hH];exact lp,by rw[hH];exact lp⟩
  ·rw[h4,<-hw];rfl
  ·have all:∀{l:List (PV×PV)}{m:List (PV×Addr×V)}{z:List (PV×Addr×Value)},RKd C φ H l m->wD m z->∀x∈z,(kC X.prog X.w).is s.heap x.1 x.2.1:=by
    intro l m z q;unfold RKd at q
    induction q generalizing z with
    |nil=>intro rz x hx;cases rz;cases hx
    |cons hq t ih=>
     intro rz x hx;cases rz with
     |cons hz' tz=>
      rcases ba.mp hx with e|hx
      ·subst e;refine⟨?_,?_⟩
       ·rw[<-hz'.1,<-hq.1];exact hq.2.1
       ·rw[<-hz'.1,<-hq.1,<-hz'.2.1];exact HJ I hK 6 hq.2.1 hq.2.2.1 rfl
      ·exact ih tz x hx
   exact all r rx
 ·rename_i hk;cases e
  obtain⟨ks,hH,r⟩:=rh.at' n a _ ha hk;have:ks=[]:=by cases r;rfl
  subst this;obtain⟨z,hd,vs,rel,o,es,ep,h1,h2,h3,h4,h5,h6⟩:=CP I.hok hH;have:vs=[]:=by cases rel;rfl
  subst this;refine⟨⟨[],[],.nil,.nil,bw _,hd,o,es,ep,h1,h2,h3,?_,(λx hx=>nomatch hx),List.nodup_nil⟩,by rw[hH];exact lp,by rw[hH];exact lp⟩;cases he:es.toList with
  |nil=>rfl
  |cons y ys=>rw[he]at h5;cases h5
 ·cases e
theorem HD.val{a:Addr}{kvs:List (PV×PV)}{ks:List (PV×Addr×V)}{xs:List (PV×Addr×Value)}(r:RKd C φ H kvs ks)(rx:wD ks xs)(k:PV):match aU kvs k,(atKey xs k).map (·.2) with
  |some p,some u=>∃v,RelV v u/\RV C φ H p v
  |none,none=>True
  |_,_=>False:=by
 unfold RKd at r
 induction r generalizing xs with
 |nil=>cases rx;trivial
 | @cons p q ps qs h t ih=>
  cases rx with
  | @cons q' x qs' xs' hx tx=>
   obtain⟨pk,pv⟩:=p
   by_cases e:pk=k
   ·have e':x.1=k:=hx.1.symm.trans (h.1.symm.trans e);have b:atKey (x::xs') k=some x.2:=by simp[atKey,jl,e']
    rw[b];unfold aU;rw[if_pos e];exact⟨_,hx.2.2,h.2.2.2⟩
   ·have e':¬ x.1=k:=λz=>e (h.1.trans (hx.1.trans z));have b:atKey (x::xs') k=atKey xs' k:=by simp[atKey,jl,e']
    rw[b];unfold aU;rw[if_neg e];exact ih tx
def dI{κ:Type}[DecidableEq κ](kvs:List (κ×PV))(k:κ)(p:PV):List (κ×PV):=if(aU kvs k).isSome then kvs.map (λkv=>if kv.1=k then(kv.1,p) else kv) else kvs++[(k,p)]
theorem HD.replace{a:Addr}{kvs:List (PV×PV)}{ks:List (PV×Addr×V)}{xs:List (PV×Addr×Value)}(r:RKd C φ H kvs ks)(rx:wD ks xs)(k:PV){p:PV}{v:V}{u:Value}(rp:RV C φ H p v)(ru:RelV v u):
  ∃ks',RKd C φ H (kvs.map λkv=>if kv.1=k then(kv.1,p) else kv) ks'/\wD ks' (xs.map (putAt k u)):=by
 unfold RKd at r
 induction r generalizing xs with
 |nil=>cases rx;exact⟨[],.nil,.nil⟩
 | @cons pp q ps qs h t ih=>
  cases rx with
  | @cons q' x qs' xs' hx tx=>
   obtain⟨ks',r1,r2⟩:=ih tx
   by_cases e:pp.1=k
   ·refine⟨(q.1,q.2.1,v)::ks',.cons ?_ r1,.cons ?_ r2⟩
    ·simp only[if_pos e];exact⟨h.1,h.2.1,h.2.2.1,rp⟩
    ·unfold putAt;rw[if_pos (hx.1.symm.trans (h.1.symm.trans e))];exact⟨hx.1,hx.2.1,ru⟩
   ·refine⟨q::ks',.cons ?_ r1,.cons ?_ r2⟩
    ·simp only[if_neg e];exact h
    ·unfold putAt;rw[if_neg λz=>e (h.1.trans (hx.1.trans z))];exact hx
theorem HD.put{a b:Addr}{kvs:List (PV×PV)}{ks:List (PV×Addr×V)}{xs:List (PV×Addr×Value)}(r:RKd C φ H kvs ks)(rx:wD ks xs){k:PV}(hk:k.ky 6=true)(rk:RV C φ H k (.ref b)){p:PV}{v:V}{u:Value}(rp:RV C φ H p v)(ru:RelV v u):
  ∃ks',RKd C φ H (dI kvs k p) ks'/\wD ks' (storedH xs k b u):=by
 have hv:=HD.val (a:=b) r rx k;unfold dI storedH;cases e1:aU kvs k with
 |some p0=>
  rw[e1]at hv;cases e2:atKey xs k with
  |none=>rw[e2]at hv;exact hv.elim
  |some z=>exact HD.replace (a:=b) r rx k rp ru
 |none=>
  rw[e1]at hv;cases e2:atKey xs k with
  |some z=>rw[e2]at hv;exact hv.elim
  |none=>exact⟨ks++[(k,b,v)],Paired.snoc r ⟨rfl,hk,rk,rp⟩,Paired.snoc rx ⟨rfl,rfl,ru⟩⟩
theorem HD.isSome{kvs:List (PV×PV)}{ks:List (PV×Addr×V)}{xs:List (PV×Addr×Value)}(r:RKd C φ H kvs ks)(rx:wD ks xs)(k:PV):(atKey xs k).isSome=(aU kvs k).isSome:=by
 have hv:=HD.val (a:=0) r rx k;cases e1:aU kvs k with
 |some p0=>
  rw[e1]at hv;cases e2:atKey xs k with
  |none=>rw[e2]at hv;exact hv.elim
  |some z=>rfl
 |none=>
  rw[e1]at hv;cases e2:atKey xs k with
  |some z=>rw[e2]at hv;exact hv.elim
  |none=>rfl
theorem wG(I:Inv X pins σ H s)(hK:X.K=C.K){p:PV}{b:Addr}(hk:p.isKt=true)(r:RV C φ H p (.ref b)):(kC X.prog X.w).is s.heap p b:=⟨jF hk,HJ I hK 6 (jF hk) r rfl⟩
end
section
variable{C:MC}{k:Nat}{X:Cx}
theorem Cxt.room6(c:Cxt C k X):(kC X.prog X.w).room X.A.in1:=by
 have:=c.hu64
 show X.A.units+1+6<cLine
 omega
def iL(x y:PV)(h:PH):Option (Option PV):=match y with
 |.ref n=>if x.isKt=true then(cJ h n).map λkvs=>aU kvs x else none
 |_=>none
def Mf(C:MC):V->V->Hp->(List Addr->Option PV->Prop)->Prop:=λx y H R=>∃φ h p n a kvs,RH C φ H h/\RV C φ H p x/\y=.ref a/\φ[n]?=some a/\cJ h n=some kvs/\p.isKt=true/\R φ (aU kvs p)
theorem wH{φ:List Addr}{H:Hp}{h:PH}{p q:PV}{x y:V}{o:Option PV}{R:List Addr->Option PV->Prop}(rh:RH C φ H h)(rx:RV C φ H p x)(ry:RV C φ H q y)(e:iL p q h=some o)(r:R φ o):Mf C x y H R:=by
 unfold iL at e;cases q with
 |ref n=>
  obtain⟨a,rfl,ha⟩:=ry;dsimp only at e;split at e
  ·rename_i hk;cases e1:cJ h n with
   |none=>rw[e1]at e;cases e
   |some kvs=>rw[e1]at e;cases e;exact⟨φ,h,p,n,a,kvs,rh,rx,rfl,ha,e1,hk,r⟩
  ·cases e
 |_=>cases e
theorem Fs(c:Cxt C k X):OpR X (c9 .NotIn) (λx y H Q=>Mf C x y H λ_ o=>Q (.bl (!o.isSome)) H):=λpins s σ H x y v u Q I rx ry h=>by
 obtain⟨φ,h,p,n,a,kvs,rh,rp,rfl,ha,ht,hk,q⟩:=h;cases ry
 obtain⟨b,rfl⟩:=jG hk rp;cases rx
 obtain⟨⟨ks,xs,r,rx',hz,hm,dd⟩,_⟩:=wF I c.K c.w rh ha ht;refine wpAny_notIn_heap c.room6 (wG I c.K hk rp) hm dd ?_;rw[HD.isSome r rx' p];exact⟨.bl _,H,I.tok _,rfl,q⟩
def Yw:PV->PV->PH->Rs PV:=λx y h=>match iL x y h with
 |some o=>.ok (.bl o.isSome) h
 |none=>vIn x y h
def cE:PV->PV->PH->Rs PV:=λx y h=>match iL x y h with
 |some o=>.ok (.bl (!o.isSome)) h
 |none=>vV x y h
theorem wI:OpS C k X (c9 .NotIn) cE:=λc=>((Pv c).or (Fs c)).imp λx y H Q h=>by
 obtain⟨φ,h,p,q,rh,rx,ry,po⟩:=h;unfold cE at po;cases e:iL p q h with
 |none=>rw[e]at po;exact .inl ⟨φ,h,p,q,rh,rx,ry,po⟩
 |some o=>rw[e]at po;exact .inr (wH rh rx ry e (po.val rh rfl))
theorem Y4(c:Cxt C k X):IxR X (λx y H Q=>Mf C y x H λφ o=>∃p,o=some p/\∀v:V,RV C φ H p v->Q v H):=by
 intro value slice pins s σ H x y v u Q I rx ry h hs;obtain⟨φ,h,p,n,a,kvs,rh,rp,rfl,ha,ht,hk,p',ep,q⟩:=h;cases rx
 obtain⟨b,rfl⟩:=jG hk rp;cases ry
 obtain⟨⟨ks,xs,r,rx',hz,hm,dd⟩,_⟩:=wF I c.K c.w rh ha ht;have hT:=dd.typeIs;have hv:=HD.val (a:=a) r rx' p;rw[ep]at hv;cases e2:atKey xs p with
 |none=>rw[e2]at hv;exact hv.elim
 |some z=>
  rw[e2]at hv;obtain⟨v',rv1,rv2⟩:=hv;unfold subscriptTail;refine aa ?_;rw[getitemInPython_of_ne hT.not_modules];refine aa (m5 hT PySem.F.slot_dict_getitem.lookup ?_);have fin:wpAny (model X.prog X.w) X.A (subscripted slice false (.ref a) (.ref b)) (λr s₃=>wpAny (model X.prog X.w) X.A (letTemporaryGo value (.ref a) r >>= λ_=>pure r) (EP X pins σ Q) X.xe s₃) X.xe s:=by
   rw[hs];exact wpAny_operating (wpAny_getItem_heap c.room6 (wG I c.K hk rp) dd e2 (aa (wpAny_letTemporaryGo (ae ⟨v',H,I.tok _,rv1,q v' rv2⟩))))
  first
   |exact ae (aa fin)
   |exact aa (ae (aa fin))
   |exact aa fin
def vAt:PV->PV->PH->Rs PV:=λx y h=>match iL y x h with
 |some (some p)=>.ok p h
 |some none=>.bad
 |none=>vIx x y h
theorem bN{a b:Expr}{ma mb:Me}{pos:Pos}(ha:SE C k X a ma)(hb:SE C k X b mb)(hs:Hl b:=by intro _ _;rfl):SE C k X (.Subscript a b pos) (aD vAt ma mb):=λc=>
 (Vn ((ixC c.hu C.K c.K).or (Y4 c)) (ha c) (hb c) hs).imp λσ H Q h=>by
  obtain⟨φ,δ,h,rh,re,p⟩:=Hu h;refine⟨φ,δ,h,rh,re,p.imp ?_⟩;rintro v H1 ⟨φ,δ,h,rh,re,p⟩;refine⟨φ,δ,h,rh,re,p.imp ?_⟩;rintro u H2 ⟨φ,h,p,q,rh,rx,ry,po⟩;unfold vAt at po;cases e:iL q p h with
  |none=>rw[e]at po;exact .inl (VO ⟨φ,h,p,q,rh,rx,ry,po⟩)
  |some o=>
   rw[e]at po;cases o with
   |none=>exact po.elim
   |some r=>exact .inr (wH rh ry rx e ⟨r,rfl,λv' rv=>po.val rh rv⟩)
def uQ(x y v:PV)(h:PH):Option PH:=match x with
 |.ref n=>match nZ y,h[n]? with
  |some key,some (.dK kvs)=>if kvs.length<aw then some (h.set n (.dK (dI kvs key v))) else none
  |some _,_=>none
  |none,_=>if y.isKt=true then(match cJ h n with
   |some kvs=>if kvs.length<aw then some (h.set n (.dD (dI kvs y v))) else none
   |none=>none) else none
 |_=>none
theorem Ft{φ:List Addr}{H:Hp}{κ:Type}[DecidableEq κ]{kvs:List (κ×PV)}{ks:List (κ×V)}(r:RKv C φ H kvs ks)(a:κ):(aU kvs a).isSome=(iD ks a).isSome:=by
 have:=rX r a;cases e1:aU kvs a with
 |none=>
  cases e2:iD ks a with
  |none=>rfl
  |some v=>rw[e1,e2]at this;exact this.elim
 |some p=>
  cases e2:iD ks a with
  |none=>rw[e1,e2]at this;exact this.elim
  |some v=>rfl
theorem wJ{φ:List Addr}{H:Hp}{κ:Type}[DecidableEq κ]{kvs:List (κ×PV)}{ks:List (κ×V)}(r:RKv C φ H kvs ks)(a:κ){p:PV}{v:V}(rp:RV C φ H p v):RKv C φ H (dI kvs a p) (putK ks a v):=by
 unfold dI putK;rw[vI,Ft r a];split
 ·rename_i hx;clear hx;unfold RKv at r⊢
  induction r with
  |nil=>exact .nil
  | @cons p' q' ps qs h t ih=>
   refine .cons ?_ ih
   by_cases e:p'.1=a
   ·have e':q'.1=a:=h.1.symm.trans e;simp only[if_pos e,if_pos e'];exact⟨h.1,rp⟩
   ·have e':¬ q'.1=a:=λz=>e (h.1.trans z);simp only[if_neg e,if_neg e'];exact h
 ·exact Paired.snoc r ⟨rfl,rp⟩
theorem Ah{φ:List Addr}{H:Hp}{h h':PH}{px py pv:PV}{x y v:V}(c:Cxt C k X)(rh:RH C φ H h)(rx:RV C φ H px x)(ry:RV C φ H py y)(rv:RV C φ H pv v)(e:uQ px py pv h=some h'){pins:List (Addr×Obj)}{σ:St}{s:Shared}{xu yu vu:Value}
  {Q:Unit->Shared->Prop} (I:Inv X pins σ H s) (rxu:RelV x xu) (ryu:RelV y yu) (rvu:RelV v vu) (q:∀s' H',Inv X pins σ H' s'->Kp H H'->RH C φ H' h'->Q () s'):wpAny (model X.prog X.w) X.A (setItem xu yu vu) Q X.xe s:=by
 unfold uQ at e;cases px with
 |ref n=>
  obtain⟨a,rfl,ha⟩:=rx;cases rxu
  dsimp only at e;split at e
  ·rename_i key kvs hkey hk;split at e
   ·rename_i hl;cases e
    obtain⟨ks,hH,rk⟩:=rh.at' n a _ ha hk;have ey:y=kV key:=vW ry hkey;subst ey;have hl':ks.length<aw:=by rw[<-fj rk];exact hl
    refine IY c.hu I (.k hH hl') ryu rvu λs' I'=>q s' _ I' (Kp.dK hH) ?_;refine rh.write ha (by rw[hH];exact lp) ⟨_,bF,?_⟩;exact(wJ rk key rv).mono az (Kp.dK hH)
   ·cases e
  ·cases e
  ·split at e
   ·rename_i hk;split at e
    ·rename_i kvs ht;split at e
     ·rename_i hl;cases e
      obtain⟨b,rfl⟩:=jG hk ry;cases ryu
      obtain⟨⟨ks,xs,r,rx',hz,hm,dd⟩,mu,nt⟩:=wF I c.K c.w rh ha ht;refine wpAny_setItem_heap (hsz:=hz) c.room6 (wG I c.K hk ry) dd λh' dd' hs=>?_;obtain⟨ks',r1,r2⟩:=HD.put (a:=a) r rx' (jF hk) ry rv rvu;obtain⟨o,es,ep,hq,h2,h3,h4,_,h5⟩:=dd';have hl2:ks'.length<=aw:=by
       have e1:=fj r1;have e2:(dI kvs py pv).length<=kvs.length+1:=by
        unfold dI;split
        ·rw[af];omega
        ·simp
       omega
      refine q _ (upd H a (dDO C.w a ks')) (pA I mu hs ⟨o,hq⟩ ⟨⟨hl2,hm,_,r2,o,es,ep,hq,h2,h3,?_,h5⟩,⟨o,hq⟩,?_⟩) (Kp.upd nt) ?_
      ·rw[h4,<-c.w];rfl
      ·rintro g1 g2 ⟨z1,z2,ws,z3,o',es',ep',z4,z5⟩ keep;exact⟨z1,z2,ws,z3,o',es',ep',keep _ z4,z5⟩
      ·exact rh.write ha nt ⟨ks',bF,RKd.mono az (Kp.upd nt) r1⟩
     ·cases e
    ·cases e
   ·cases e
 |_=>cases e
end
end L2
namespace L2
open PySem PySem.Spec PyProof.Rows
def MtG(C:MC)(k:Nat)(X:Cx)(T:String)(ty:PV->PH->Bool)(id:String)(g:PV->List PV->PH->Rs PV):Prop:=Cxt C k X->MtR X id (rM C g)/\
 ∀pins s σ H φ h p x v,Inv X pins σ H s->RH C φ H h->RV C φ H p x->RelV x v->ty p h=true->s.TypeIs v T/\∀a,v=.ref a->∃ob,s.heap.get? a=some ob/\ob.dict=none
section
variable{C:MC}{k:Nat}{X:Cx}
section
variable{o e:Expr}{es:List Expr}{mo:Me}{ms:Ma}{name:Str}{apos cpos:Pos}{T id:String}{ty:PV->PH->Bool}{g:PV->List PV->PH->Rs PV}
theorem PU(pa:PlainAttrs T)(slot:Slot T name id)(hty:typeOf (.builtin id)=pure (.type "method_descriptor"))(hm:MtG C k X T ty id g)(ho:SE C k X o mo)(ha:SA C k X (e::es) ms)
  (hbase:attributeBase o name X.env (eval o X.env)=eval o X.env:=by rfl)
  (hfew:((backTo cpos (bu (e::es) X.env)).all (λx=>!x.1)&&(backToKw cpos (keywordEach [] X.env)).all (λx=>x.1.isSome)
   && decide ((e::es).length+([]:List Keyword).length+(if([]:List Keyword).isEmpty then 0 else 1)<30))=true:=by rfl)
  (hline:(apos.endLine == cpos.line)=true:=by rfl) (hs:bu (e::es) X.env=(false,eval e X.env)::bu es X.env:=by rfl) (hplain:(backTo cpos (bu es X.env)).any (·.1)=false:=by rfl):
  SE C k X (.Call (.Attribute o name apos) (e::es) [] cpos) (mMt ty g mo ms):=λc pins s σ H Q I ⟨φ,δ,h,rh,re,p⟩=>by
 refine wpAny_Call_method_late hbase hfew hline rfl (thn (ho c pins s σ H _ I ⟨φ,δ,h,rh,re,post.bind p⟩) ?_);rintro v s1 ⟨x,H1,I1,r1,φ1,px,h1,p1,t1,rh1,rv1,q1⟩;obtain⟨ht,q1⟩:=q1.ite;obtain⟨g1,g2⟩:=(hm c).2 pins s1 σ H1 φ1 h1 px x v I1 rh1 rv1 r1 ht;refine⟨T,id,pa,slot,hty,g1,g2,?_⟩;have hA:=ha c cpos pins s1 σ H1 _ I1 ⟨φ1,δ,h1,rh1,re.mono p1 t1,postA.bind q1⟩;rw[hs]at hA⊢;refine Calls.callWith_builtin (show(false || (backTo cpos (bu es X.env)).any (·.1))=false by rw[hplain];rfl) (Calls.evalArgs_plain (thn hA ?_));rintro us s2 ⟨vs,H2,I2,r2,φ2,ps,h2,p2,t2,rh2,rv2,q2⟩;exact(hm c).1 pins s2 σ H2 x vs v us Q I2 r1 r2 ⟨φ2,h2,px,ps,rh2,rv1.mono p2 t2,rv2,q2⟩
theorem Sd(pa:PlainAttrs T)(slot:Slot T name id)(hty:typeOf (.builtin id)=pure (.type "method_descriptor"))(hm:MtG C k X T ty id g)(ho:SE C k X o mo)
  (hbase:attributeBase o name X.env (eval o X.env)=eval o X.env:=by rfl) (hline:(apos.endLine == cpos.line)=true:=by rfl):SE C k X (.Call (.Attribute o name apos) [] [] cpos) (PC ty g mo):=λc pins s σ H Q I ⟨φ,δ,h,rh,re,p⟩=>by
 refine wpAny_Call_method0_late hbase hline (thn (ho c pins s σ H _ I ⟨φ,δ,h,rh,re,post.bind p⟩) ?_);rintro v s1 ⟨x,H1,I1,r1,φ1,px,h1,p1,t1,rh1,rv1,q1⟩;obtain⟨ht,q1⟩:=q1.ite;obtain⟨g1,g2⟩:=(hm c).2 pins s1 σ H1 φ1 h1 px x v I1 rh1 rv1 r1 ht;exact⟨T,id,pa,slot,hty,g1,g2,Calls.callWith_builtin rfl (PySem.evalArgs_none ((hm c).1 pins s1 σ H1 x [] v [] Q I1 r1 .nil ⟨φ1,h1,px,[],rh1,rv1,trivial,q1⟩))⟩
end
def dQ(x:PV)(h:PH):Bool:=match x with
 |.ref n=>match h[n]? with
  |some (.dK _)=>true
  |some (.dD _)=>true
  |_=>false
 |_=>false
theorem pP(c:Cxt C k X):∀pins s σ H φ h p x v,Inv X pins σ H s->RH C φ H h->RV C φ H p x->RelV x v->dQ p h=true->s.TypeIs v "dict" /\ ∀a,v=.ref a->∃ob,s.heap.get? a=some ob/\ob.dict=none:=by
 intro pins s σ H φ h p x v I rh rv r e;unfold dQ at e;cases p with
 |ref n=>
  obtain⟨a,rfl,ha⟩:=rv;cases r
  dsimp only at e;split at e
  ·rename_i kvs hk;obtain⟨ks,hH,rk⟩:=rh.at' n a _ ha hk;obtain⟨z,hd,vs,rel,dd⟩:=CP I.hok hH;refine⟨dd.typeIs,λb eb=>?_⟩;cases eb
   obtain⟨ob,_,_,h1,h2,_⟩:=dd;exact⟨ob,h1,h2.2.1⟩
  ·rename_i kvs hk;have ht:cJ h n=some kvs:=by unfold cJ;rw[hk]
   obtain⟨⟨ks,xs,r,rx',hz,hm,dd⟩,_⟩:=wF I c.K c.w rh ha ht;refine⟨dd.typeIs,λb eb=>?_⟩;cases eb
   obtain⟨ob,_,_,h1,h2,_⟩:=dd;exact⟨ob,h1,h2.2.1⟩
  ·cases e
 |_=>cases e
def dG(h:PH)(x y:PV):Option (Option PV):=match iL y x h with
 |some o=>some o
 |none=>match x with
  |.ref n=>Br h n y
  |_=>none
def Di:PV->List PV->PH->Rs PV:=λx ps h=>match ps with
 |[y]=>match dG h x y with
  |some o=>.ok (o.getD .non) h
  |none=>.bad
 |[y,z]=>match dG h x y with
  |some o=>.ok (o.getD z) h
  |none=>.bad
 |_=>.bad
theorem Mh{x y:PV}{h:PH}{o:Option PV}(e:iL x y h=some o):∃n kvs,y=.ref n/\x.isKt=true/\cJ h n=some kvs/\o=aU kvs x:=by
 unfold iL at e;cases y with
 |ref n=>
  dsimp only at e;split at e
  ·rename_i hk;cases e1:cJ h n with
   |none=>rw[e1]at e;cases e
   |some kvs=>rw[e1]at e;cases e;exact⟨n,kvs,rfl,hk,e1,rfl⟩
  ·cases e
 |_=>cases e
theorem TM(c:Cxt C k X):MtR X "dict.get" (rM C Di):=λpins s σ H x xs v us Q I rx rs h=>by
 obtain⟨φ,h,p,ps,rh,rp,rps,po⟩:=h
 -- what is found
 have key:∀{y:PV}{yv:V}{yu:Value}{o:Option PV}{d:PV}{dv:V}{du:Value}{more:List Value},dG h p y=some o->RV C φ H y yv->RelV yv yu->RV C φ H d dv->RelV dv du->
   ((more=[]/\du=.none/\dv=.non)\/more=[du])->(∀z,RV C φ H (o.getD d) z->Q z H)->wpAny (model X.prog X.w) X.A (call (.builtin "dict.get") (v::yu::more)) (EP X pins σ Q) X.xe s:=by
  intro y yv yu o d dv du more e ry ryu rd rdu hm q;unfold dG at e;cases e1:iL y p h with
  |some o'=>
   rw[e1]at e;cases e
   obtain⟨n,kvs,rfl,hk,ht,rfl⟩:=Mh e1;obtain⟨a,rfl,ha⟩:=rp;cases rx
   obtain⟨b,rfl⟩:=jG hk ry;cases ryu
   obtain⟨⟨ks,xs,r,rx',hz,hm',dd⟩,_⟩:=wF I c.K c.w rh ha ht;have hv:=HD.val (a:=a) r rx' y;have fin:EP X pins σ Q (((atKey xs y).map (·.2)).getD du) { s with toks:=s.toks+(kC X.prog X.w).draws y }:=by
    cases e2:aU kvs y with
    |some p2=>
     rw[e2]at hv q;cases e3:atKey xs y with
     |none=>rw[e3]at hv;exact hv.elim
     |some z=>
      rw[e3]at hv;obtain⟨v',rv1,rv2⟩:=hv;exact⟨v',H,I.tok _,rv1,q v' rv2⟩
    |none=>
     rw[e2]at hv q;cases e3:atKey xs y with
     |some z=>rw[e3]at hv;exact hv.elim
     |none=>exact⟨dv,H,I.tok _,rdu,q dv rd⟩
   rcases hm with⟨rfl,rfl,_⟩|rfl
   ·exact jy d6 dd.typeIs iu (PySem.F.args_dict_get_2 _ _) (meetsH_dict_get (kC X.prog X.w) a b hm') ⟨c.room6,y,xs,wG I c.K hk ry,dd,fin⟩
   ·exact jy d6 dd.typeIs iu (PySem.F.args_dict_get_3 _ _ _) (meetsH_dict_get_default (kC X.prog X.w) a b hm' du) ⟨c.room6,y,xs,wG I c.K hk ry,dd,fin⟩
  |none=>
   rw[e1]at e;cases p with
   |ref n=>
    obtain⟨a,rfl,ha⟩:=rp;cases rx
    dsimp only at e;obtain⟨o',g,is,val⟩:=oA rh ha ry e;have fin:∀w' s',Inv X pins σ H s'->RelV (o'.getD dv) w'->EP X pins σ Q w' s':=λw' s' I' r'=>by
     refine⟨o'.getD dv,H,I',r',q _ ?_⟩;cases o with
     |some p2=>obtain⟨w2,rfl,rw2⟩:=val p2 rfl;exact rw2
     |none=>
      cases o' with
      |none=>exact rd
      |some z=>cases is
    rcases hm with⟨rfl,rfl,rfl⟩|rfl
    ·exact Ta c.hu I g ryu fin
    ·exact Tb c.hu I g ryu rdu fin
   |_=>cases e
 unfold Di at po;split at po
 ·rename_i y;split at po
  ·rename_i o e;obtain⟨yv,rfl,ry⟩:=rps.one;obtain⟨yu,rfl,ryu⟩:=vals1 rs;exact key (d:=.non) (dv:=.non) (du:=.none) e ry ryu rfl rfl (.inl ⟨rfl,rfl,rfl⟩) λz rz=>po.val rh rz
  ·exact po.elim
 ·rename_i y z;split at po
  ·rename_i o e;obtain⟨yv,zv,rfl,ry,rz⟩:=rps.two;obtain⟨yu,zu,rfl,ryu,rzu⟩:=vals2 rs;exact key e ry ryu rz rzu (.inr rfl) λz rz=>po.val rh rz
  ·exact po.elim
 ·exact po.elim
theorem Mj:MtG C k X "dict" dQ "dict.get" Di:=λc=>⟨TM c,pP c⟩
def kN:List PV->Option (List (Key×PV))
 |[]=>some []
 |.tup [y,v]::r=>match nZ y,kN r with
  |some key,some rs=>some ((key,v)::rs)
  |_,_=>none
 |_::_=>none
def sF(kvs more:List (Key×PV)):List (Key×PV):=more.foldl (λacc kv=>dI acc kv.1 kv.2) kvs
theorem Fu{φ:List Addr}{H:Hp}:∀{more:List (Key×PV)}{ms:List (Key×V)}{kvs:List (Key×PV)}{ks:List (Key×V)},RKv C φ H more ms->RKv C φ H kvs ks->RKv C φ H (sF kvs more) (rH ks ms):=by
 intro more ms kvs ks r;unfold RKv at r
 induction r generalizing kvs ks with
 |nil=>intro q;exact q
 | @cons p q ps qs h t ih=>
  intro r0;have e:=wJ r0 p.1 h.2;rw[show putK ks p.1 q.2=putK ks q.1 q.2 by rw[h.1]]at e;exact ih e
theorem Inv.tupleD{pins:List (Addr×Obj)}{σ:St}{H:Hp}{s:Shared}{a:Addr}{xs:List V}(I:Inv X pins σ H s)(h:SqT X.K H a xs):∃its:List Value,aO xs its/\oX s.heap a its.toArray/\xs.length<=aw:=by
 rcases h with h|⟨o,its,n,hk,hc,hs,hz,r,hd⟩
 ·obtain⟨z,its,r,p⟩:=h.ok I.hok;exact⟨its,r,p,z⟩
 ·refine⟨its.toList,r,⟨o,I.kIn a o hk,hc,⟨n,by simpa using hs⟩,hd⟩,?_⟩
  have e:=r.length;rw[e];simpa using hz
theorem Ai{pins:List (Addr×Obj)}{σ:St}{H:Hp}{s:Shared}{φ:List Addr}(I:Inv X pins σ H s)(hK:X.K=C.K):∀{ps:List PV}{rs:List (Key×PV)}{vs:List V}{us:List Value},kN ps=some rs->RVs C φ H ps vs->aO vs us->
  ∃qs:List (Addr×Key×Value×Value),us=qs.map (λq=>c3 q.1)/\(∀q∈qs,(bL X.prog X.w).is q.2.1 q.2.2.1=true)/\(∀q∈qs,IsTup s.heap q.1 #[q.2.2.1,q.2.2.2])/\∃ws:List (Key×V),RKv C φ H rs ws/\KV ws (qs.map λq=>(q.2.1,q.2.2.2))
 |[],rs,[],us,e,_,ru=>by
  cases ru
  cases e
  exact⟨[],rfl,(λ_ h=>nomatch h),(λ_ h=>nomatch h),[],.nil,.nil⟩
 |p::ps,rs,v::vs,us,e,r,ru=>by
  cases ru with
  | @cons _ u _ us' h t=>
   cases p with
   |tup xs=>
    match xs,e with
    |[y,z],e=>
     unfold kN at e;cases e1:nZ y with
     |none=>rw[e1]at e;cases e
     |some key=>
      cases e2:kN ps with
      |none=>rw[e1,e2]at e;cases e
      |some rs'=>
       rw[e1,e2]at e;cases e
       obtain⟨qs,rfl,a1,a2,ws,a3,a4⟩:=Ai I hK e2 r.2 t;obtain⟨b,bs,rfl,sq,rb⟩:=r.1;cases h
       obtain⟨yv,zv,rfl,ry,rz⟩:=rb.two;rw[<-hK]at sq;obtain⟨its,rits,pt,_⟩:=I.tuple sq;obtain⟨yu,zu,rfl,ryu,rzu⟩:=vals2 rits;have ey:=vW ry e1;subst ey;refine⟨(b,key,yu,zu)::qs,rfl,?_,?_,(key,zv)::ws,.cons ⟨rfl,rz⟩ a3,.cons ⟨rfl,rzu⟩ a4⟩
       ·intro q hq;rcases ba.mp hq with rfl|hq
        ·exact tO ryu
        ·exact a1 q hq
       ·intro q hq;rcases ba.mp hq with rfl|hq
        ·exact pt
        ·exact a2 q hq
    |[],e=>cases e
    |[_],e=>cases e
    |_::_::_::_,e=>cases e
   |_=>cases e
 |[],_,_::_,_,_,r,_=>r.elim
 |_::_,_,[],_,_,r,_=>r.elim
def wK:List PV->PH->Rs PV:=λxs h=>match xs with
 |[.tup ps]=>match kN ps with
  |some rs=>.ok (.ref h.length) (h++[.dK (sF [] rs)])
  |none=>.bad
 |[.ref n]=>match h[n]? with
  |some (.dK kvs)=>.ok (.ref h.length) (h++[.dK kvs])
  |_=>.bad
 |_=>.bad
theorem Ml:gU C k X (.type "dict") wK:=λc pins s σ H xs us Q I r h=>by
 obtain⟨φ,h,ps,rh,rv,po⟩:=h;unfold wK at po;split at po
 ·rename_i ps;split at po
  ·rename_i rs e;obtain⟨v,rfl,rx⟩:=rv.one;obtain⟨a,vs,rfl,sa,ra⟩:=rx;obtain⟨u,rfl,ru⟩:=vals1 r;cases ru
   have hl:=ra.length;have sa':=sa;rw[<-c.K]at sa';obtain⟨its,rits,⟨o,o1,o2,⟨n,o3⟩,o4⟩,hz⟩:=Inv.tupleD I sa';obtain⟨qs,rfl,a1,a2,ws,a3,a4⟩:=Ai I c.K e ra rits;have hq:qs.length<=aw:=by
    have:=rits.length;rw[af]at this;omega
   refine uN (I.ok.hd c.calm) o1 o2 o3 o4 a1 a2 hq λh' tk dd kk=>?_;have r1:=Fu a3 (.nil:RKv C φ H [] []);have hz2:(rH [] ws).length<=aw:=by
    have h1:=nJ ws [];have h2:=KV.length a4;rw[af]at h2;simp at h1;omega
   have fr:H s.heap.objs.size=none:=I.fresh;refine⟨.ref s.heap.objs.size,_,I.laid (a:=s.heap.objs.size) (o:=.dK (rH [] ws)) (t':=tk) kk (ak _) (Bb hz2 (beq_eq_false_iff_ne.mpr (k0 (a9 I.big))) (a4.merge .nil) dd),rfl,?_⟩;exact po (φ++[s.heap.objs.size]) (.ref _) _ (c8 _ _) (Kp.new fr) (rh.new fr ⟨_,bF,r1.mono (c8 _ _) (Kp.new fr)⟩) ⟨_,rfl,by rw[<-rh.len];simp⟩
  ·exact po.elim
 ·rename_i n;split at po
  ·rename_i kvs hk;obtain⟨v,rfl,rx⟩:=rv.one;obtain⟨a,rfl,ha⟩:=rx;obtain⟨u,rfl,ru⟩:=vals1 r;cases ru
   obtain⟨ks,hH,rk⟩:=rh.at' n a _ ha hk;refine Lk I (.inl hH) λp s' hp I'=>⟨.ref p,_,I',rfl,?_⟩;exact po (φ++[p]) (.ref _) _ (c8 _ _) (Kp.new hp) (rh.new hp ⟨_,bF,rk.mono (c8 _ _) (Kp.new hp)⟩) ⟨_,rfl,by rw[<-rh.len];simp⟩
  ·exact po.elim
 ·exact po.elim
end
def Jn(x:List Key):List (List Key)->List (List Key)
 |[]=>[x]
 |y::ys=>if bM y x=true then y::Jn x ys else x::y::ys
def cP:List (List Key)->List (List Key)
 |[]=>[]
 |x::xs=>Jn x (cP xs)
theorem sG(x:List Key):∀ys,(Jn x ys).Perm (x::ys)
 |[]=>.refl _
 |y::ys=>by
  unfold Jn;split
  ·exact((sG x ys).cons y).trans (.swap x y ys)
  ·exact .refl _
theorem eZ:∀xs,(cP xs).Perm xs
 |[]=>.refl _
 |x::xs=>(sG x _).trans ((eZ xs).cons x)
theorem tY{S:List Bool}{x:List Key}(hx:shape x=S):∀{ys:List (List Key)},(∀y∈ys,shape y=S)->ys.Pairwise (λa b=>bM b a=false)->(Jn x ys).Pairwise (λa b=>bM b a=false)
 |[],_,_=>jf _ _
 |y::ys,hs,hp=>by
  have hy:=hs y ai;have hs':=λz hz=>hs z (aj _ hz);rw[dh]at hp;unfold Jn;split
  ·rename_i h;rw[dh];refine⟨λz hz=>?_,tY hx hs' hp.2⟩;rcases ba.mp ((sG x ys).mem_iff.mp hz) with rfl|hz
   ·exact pE h
   ·exact hp.1 z hz
  ·rename_i h;have h':bM y x=false:=by simpa using h
   rw[dh];refine⟨λz hz=>?_,dh.mpr hp⟩;rcases ba.mp hz with rfl|hz
   ·exact h'
   ·exact mB (hx.trans hy.symm) (hy.trans (hs' z hz).symm) h' (hp.1 z hz)
theorem hW{S:List Bool}:∀{xs:List (List Key)},(∀y∈xs,shape y=S)->(cP xs).Pairwise (λa b=>bM b a=false)
 |[],_=>.nil
 |x::xs,hs=>tY (hs x ai) (λy hy=>hs y (aj _ ((eZ xs).mem_iff.mp hy))) (hW λy hy=>hs y (aj _ hy))
theorem oB{S:List Bool}{xs ys:List (List Key)}(hs:∀y∈xs,shape y=S)(hp:ys.Perm xs)(h:ys.Pairwise (λa b=>bM b a=false)):ys=cP xs:=by
 refine i8 (le:=λa b=>bM b a=false) (λa b ha hb h1 h2=>?_) h (hW hs) (hp.trans (eZ xs).symm);exact jZ ((hs a (hp.mem_iff.mp ha)).trans (hs b ((eZ xs).mem_iff.mp hb)).symm) h2 h1
def kP:Key->PV
 |.inl i=>.int i
 |.inr x=>.str x
theorem PY{x:PV}{a:Key}(h:nZ x=some a):x=kP a:=by
 cases x <;> first|(cases h;rfl)|cases h
@[simp]theorem HL(a:Key):nZ (kP a)=some a:=by cases a <;> rfl
def jT:List PV->Option (List Key)
 |[]=>some []
 |x::xs=>match nZ x,jT xs with
  |some a,some r=>some (a::r)
  |_,_=>none
theorem pQ:∀{xs:List PV}{ks:List Key},jT xs=some ks->xs=ks.map kP
 |[],_,h=>by cases h;rfl
 |x::xs,ks,h=>by
  unfold jT at h;cases e1:nZ x with
  |none=>rw[e1]at h;cases h
  |some a=>
   cases e2:jT xs with
   |none=>rw[e1,e2]at h;cases h
   |some r=>
    rw[e1,e2]at h;cases h
    rw[PY e1,pQ e2];rfl
@[simp]theorem Mm:∀ks:List Key,jT (ks.map kP)=some ks
 |[]=>rfl
 |a::ks=>by simp[jT,Mm ks]
def tP(ks:List Key):PV:=.tup (ks.map kP)
def jU:List PV->Option (List (List Key))
 |[]=>some []
 |.tup xs::r=>match jT xs,jU r with
  |some a,some b=>some (a::b)
  |_,_=>none
 |_::_=>none
theorem wL:∀{xs:List PV}{ks:List (List Key)},jU xs=some ks->xs=ks.map tP
 |[],_,h=>by cases h;rfl
 |x::xs,ks,h=>by
  cases x with
  |tup ys=>
   unfold jU at h;cases e1:jT ys with
   |none=>rw[e1]at h;cases h
   |some a=>
    cases e2:jU xs with
    |none=>rw[e1,e2]at h;cases h
    |some r=>
     rw[e1,e2]at h;cases h
     rw[pQ e1,wL e2];rfl
  |_=>cases h
@[simp]theorem pR:∀ks:List (List Key),jU (ks.map tP)=some ks
 |[]=>rfl
 |a::ks=>by simp[jU,tP,pR ks]
def nH(kss:List (List Key)):Bool:=match kss with
 |[]=>true
 |a::r=>(!a.isEmpty)&&r.all λx=>shape x == shape a
theorem oC{kss:List (List Key)}(h:nH kss=true):∃b sh,∀ks∈kss,shape ks=b::sh:=by
 cases kss with
 |nil=>exact⟨true,[],λ_ h=>nomatch h⟩
 |cons a r=>
  unfold nH at h;rw[cw]at h;cases a with
  |nil=>cases h.1
  |cons z zs=>
   refine⟨cS z,shape zs,λks hk=>?_⟩;rcases ba.mp hk with rfl|hk
   ·rfl
   ·have:=bz.mp h.2 ks hk;exact eq_of_beq this
section
variable{C:MC}{k:Nat}{X:Cx}
theorem We{φ:List Addr}{H:Hp}{a:Key}{v:V}:RV C φ H (kP a) v↔Rep C.K H (kD a) v:=by cases a <;> exact pb
theorem BA{φ:List Addr}{H:Hp}:∀{ks:List Key}{vs:List V},RVs C φ H (ks.map kP) vs↔cD C.K H (ks.map kD) vs
 |[],[]=>pb
 |[],_::_=>pb
 |_::_,[]=>pb
 |_::_,_::_=>and_congr We BA
theorem Wg{φ:List Addr}{H:Hp}{ks:List Key}{v:V}:RV C φ H (tP ks) v↔Rep C.K H (tD ks) v:=by
 constructor
 ·rintro⟨a,vs,e,s,r⟩;exact⟨a,vs,e,s,BA.mp r⟩
 ·rintro⟨a,vs,e,s,r⟩;exact⟨a,vs,e,s,BA.mpr r⟩
theorem pT{φ:List Addr}{H:Hp}:∀{kss:List (List Key)}{vs:List V},RVs C φ H (kss.map tP) vs↔cD C.K H (kss.map tD) vs
 |[],[]=>pb
 |[],_::_=>pb
 |_::_,[]=>pb
 |_::_,_::_=>and_congr Wg pT
def wM:PV->List PV->PH->Rs PV:=λx ps h=>match x,ps with
 |.ref n,[]=>match h[n]? with
  |some (.dK _)=>.ok (.ref h.length) (h++[.vw 0 n])
  |_=>.bad
 |_,_=>.bad
theorem PZ:MtG C k X "dict" dQ "dict.items" wM:=λc=>⟨MtR.imp (show MtR X "dict.items" Lx from Ly) λx xs H Q h=>by
 obtain⟨φ,h,p,ps,rh,rp,rps,po⟩:=h;unfold wM at po;split at po
 ·rename_i n;split at po
  ·rename_i kvs hk;obtain⟨a,rfl,ha⟩:=rp;obtain⟨ks,hH,rk⟩:=rh.at' n a _ ha hk;have:xs=[]:=by cases xs <;> first|rfl|exact rps.elim
   subst this;refine⟨a,ks,rfl,rfl,hH,λl hl=>?_⟩;refine po (φ++[l]) (.ref l) _ (c8 _ _) (Kp.new hl) (rh.new hl ⟨a,gR (c8 _ _) ha,bF⟩) ⟨l,rfl,by rw[<-rh.len];simp⟩
  ·exact po.elim
 ·exact po.elim,pP c⟩
def Mn(xs:List PV):Option (List PV):=match jU xs with
 |some kss=>if kss.length<64/\nH kss=true then some ((cP kss).map tP) else none
 |none=>match jT xs with
  |some ks=>if ks.length<64/\ks.all (λx=>cS x == cS (.inr ""))=true then some ((cP (ks.map λx=>[x])).flatten.map kP) else none
  |none=>none
theorem RH.same{φ:List Addr}{H H1:Hp}{h:PH}(r:RH C φ H h)(s:Ba H H1):RH C φ H1 h:=⟨r.len,r.nd,λn b ob h1 h2=>by
 have q:=r.at' n b ob h1 h2;obtain⟨u,hu⟩:=q.some;exact q.stay az (Kp.same s) ((s _ _ hu).trans hu.symm)⟩
theorem Q1{a b:Str}:bM [.inr a] [.inr b]=decide (a.cps.toList<b.cps.toList):=by
 unfold bM;split
 ·rename_i e;cases e
  simp[bM,List.lt_irrefl]
 ·rfl
theorem tZ:∀{r:List Str}{p:Str},risingS p r=true->((p::r).map λx=>[(mz x:Key)]).Pairwise (λa b=>bM b a=false)
 |[],p,_=>jf _ _
 |x::r,p,h=>by
  have h0:bM [.inr x] [.inr p]=false/\risingS x r=true:=by
   unfold risingS at h;rw[cw,ltCps_eq]at h;rw[Q1];exact⟨by simpa using h.1,h.2⟩
  have ih:=tZ h0.2;rw[a8,dh];refine⟨λz hz=>?_,ih⟩;obtain⟨y,hy,rfl⟩:=aq.mp hz;rcases ba.mp hy with rfl|hy
  ·exact h0.1
  ·rw[a8,dh]at ih;exact mB (a:=[.inr p]) (b:=[.inr x]) (c:=[.inr y]) rfl rfl h0.1 (ih.1 _ (aq.mpr ⟨y,hy,rfl⟩))
theorem Q2{ks:List Key}(h:ks.all (λx=>cS x == cS (.inr ""))=true):∃ss:List Str,ks=ss.map mz:=by
 induction ks with
 |nil=>exact⟨[],rfl⟩
 |cons a ks ih=>
  rw[jw,cw]at h;obtain⟨ss,e⟩:=ih h.2;cases a with
  |inl i=>exact absurd h.1 (by simp[cS])
  |inr x=>exact⟨x::ss,by rw[e];rfl⟩
theorem BB{φ:List Addr}{H:Hp}:∀{ss:List Str}{vs:List V},RVs C φ H (ss.map PV.str) vs↔vs=ss.map V.str
 |[],[]=>by simp[RVs]
 |[],_::_=>by simp[RVs]
 |_::_,[]=>by simp[RVs]
 |x::ss,v::vs=>by
  simp only[a8,RVs,List.cons.injEq];exact and_congr pb BB
theorem Aj:∀ss:List Str,(((ss.map λx=>[(mz x:Key)]).flatten).map kP)=ss.map PV.str
 |[]=>rfl
 |x::ss=>by
  have:=Aj ss;simp only[a8,List.flatten_cons,List.singleton_append];rw[this];rfl
theorem Jo{φ:List Addr}{H:Hp}{kvs:List (Key×PV)}{ks:List (Key×V)}(r:RKv C φ H kvs ks):∀{kss:List (List Key)},jU (kvs.map λkv=>PV.tup [kP kv.1,kv.2])=some kss->ks.map (λkv=>[kV kv.1,kv.2])=kss.map (λks=>ks.map kV):=by
 unfold RKv at r
 induction r with
 |nil=>intro kss h;cases h;rfl
 | @cons p q ps qs h t ih=>
  intro kss e;rw[a8]at e;unfold jU at e;cases e1:jT [kP p.1,p.2] with
  |none=>rw[e1]at e;cases e
  |some a=>
   cases e2:jU (ps.map λkv=>PV.tup [kP kv.1,kv.2]) with
   |none=>rw[e1,e2]at e;cases e
   |some b=>
    rw[e1,e2]at e;cases e
    rw[a8,a8,ih e2]
    congr 1
    unfold jT at e1;rw[HL]at e1;cases e3:jT [p.2] with
    |none=>rw[e3]at e1;cases e1
    |some c=>
     rw[e3]at e1;cases e1
     have:=pQ e3
     match c,this with
     |[d],this=>
      have e4:p.2=kP d:=by simpa using this
      have rv:=h.2;rw[e4]at rv;have e5:q.2=kV d:=vW rv (HL d);rw[h.1,e5];rfl
     |[],this=>exact absurd this (by simp)
     |_::_::_,this=>exact absurd this (by simp)
def HM(h:PH)(n:Nat):Option (List PV):=match h[n]? with
 |some (.vw 0 d)=>match h[d]? with
  |some (.dK kvs)=>some (kvs.map λkv=>.tup [kP kv.1,kv.2])
  |_=>none
 |_=>none
def gX:List PV->PH->Rs PV:=λxs h=>match xs with
 |[.ref n]=>match aN h n with
  |some ys=>match Mn ys with
   |some zs=>.ok (.ref h.length) (h++[.lst zs])
   |none=>.bad
  |none=>match HM h n with
   |some ys=>match jU ys with
    |some kss=>if kss.length<64/\nH kss=true then .ok (.ref h.length) (h++[.lst ((cP kss).map tP)]) else .bad
    |none=>.bad
   |none=>.bad
 |_=>.bad
theorem Dj:gU C k X (.builtin "sorted") gX:=λc=>bO.imp (bO.or (Bl c.calm C.K c.K) (by have:=rK (X:=X);rw[c.K]at this;exact this)) λvs H Q h=>by
 obtain⟨φ,h,ps,rh,rv,po⟩:=h;unfold gX at po;split at po
 ·rename_i n;obtain⟨v,rfl,rx⟩:=rv.one;obtain⟨a,rfl,ha⟩:=rx;split at po
  ·rename_i ys e;obtain⟨a2,vs,ha2,sa,ra⟩:=bJ rh e;rw[ha]at ha2;cases ha2;split at po
   ·rename_i zs ez;unfold Mn at ez;split at ez
    ·rename_i kss ek;split at ez
     ·rename_i hc;cases ez
      have ey:=wL ek;subst ey;obtain⟨b,sh,hsh⟩:=oC hc.2;refine .inl ⟨a,kss,sh,b,rfl,hc.1,hsh,.inl ⟨vs,sa,pT.mp ra,λl kss' vs' hl hp hs hr=>?_⟩⟩;rw[oB hsh hp hs]at hr;exact po.lnew rh (pT.mpr hr) hl
     ·cases ez
    ·split at ez
     ·rename_i ks ek;split at ez
      ·rename_i hc;cases ez
       obtain⟨ss,rfl⟩:=Q2 hc.2;have ey:=pQ ek;rw[cu]at ey;have ey':ys=ss.map PV.str:=ey;subst ey';have ev:=BB.mp ra;subst ev;refine .inr ⟨a,ss,rfl,sa,by simpa using hc.1,λl ss' hl hp hs=>?_⟩
       have e1:(ss'.map λx=>[(mz x:Key)])=cP ((ss.map mz).map λx=>[x]):=by
        rw[cu];refine oB (S:=[false]) (λy hy=>?_) (hp.map _) ?_
        ·obtain⟨z,_,rfl⟩:=aq.mp hy;rfl
        ·cases ss' with
         |nil=>exact .nil
         |cons x r=>exact tZ hs
       rw[<-e1]at po;refine po.lnew rh ?_ hl;have e2:(((ss'.map λx=>[(mz x:Key)]).flatten).map kP)=ss'.map PV.str:=Aj ss';rw[e2];exact BB.mpr rfl
      ·cases ez
     ·cases ez
   ·exact po.elim
  ·split at po
   ·rename_i ys ev;split at po
    ·rename_i kss ek;obtain⟨hc,po⟩:=po.ite;unfold HM at ev;split at ev
     ·rename_i d hv;split at ev
      ·rename_i kvs hk;cases ev
       obtain⟨b,hb,hH⟩:=rh.at' n a _ ha hv;obtain⟨ks,hD,rk⟩:=rh.at' d b _ hb hk;obtain⟨bb,sh,hsh⟩:=oC hc.2;refine .inl ⟨a,kss,sh,bb,rfl,hc.1,hsh,.inr ⟨b,ks,hH,hD,?_,λH1 s1 l kss' vs' hl hp hs hr=>?_⟩⟩
       ·exact Jo rk ek
       ·rw[oB hsh hp hs]at hr;exact(post.weak az (Kp.same s1) po).lnew (rh.same s1) (pT.mpr hr) hl
      ·cases ev
     ·cases ev
    ·exact po.elim
   ·exact po.elim
 ·exact po.elim
end
end L2
namespace L2
open PySem
section
variable{h:PH}
@[simp]theorem Wh{x:PV}{xs:List PV}:iL x (.tup xs) h=none:=(rfl)
@[simp]theorem Xf{x:PV}{xs:List PV}:iL x (.fl xs) h=none:=(rfl)
@[simp]theorem V0{x:PV}{z:Str}:iL x (.str z) h=none:=(rfl)
@[simp]theorem Wi{i:Int}{y:PV}:iL (.int i) y h=none:=by cases y <;> rfl
@[simp]theorem Wj{i:Str}{y:PV}:iL (.str i) y h=none:=by cases y <;> rfl
theorem Mp{x:PV}{n:Nat}{xs:List PV}(e:h[n]?=some (.lst xs)):iL x (.ref n) h=none:=by
 unfold iL cJ;simp[e]
@[simp]theorem Xg{x:PV}{i:Int}:vAt x (.int i) h=vIx x (.int i) h:=by unfold vAt;simp
@[simp]theorem Xh{x:PV}{i:Str}:vAt x (.str i) h=vIx x (.str i) h:=by unfold vAt;simp
theorem uA{x:PV}{n:Nat}{xs:List PV}(e:h[n]?=some (.lst xs)):cE x (.ref n) h=vV x (.ref n) h:=by unfold cE;rw[Mp e]
theorem kO{n:Nat}{kvs:List (Key×PV)}(e:h[n]?=some (.dK kvs)):dQ (.ref n) h=true:=by unfold dQ;simp[e]
theorem BC{n:Nat}{kvs:List (Key×PV)}{x:Str}{z:PV}(e:h[n]?=some (.dK kvs)):Di (.ref n) [.str x,z] h=.ok ((aU kvs (.inr x)).getD z) h:=by
 simp[Di,dG,Br,e,nZ]
theorem HN{n:Nat}{kvs:List (Key×PV)}{x:Str}{z:PV}(e:h[n]?=some (.dK kvs))(c:kvs.length<16777216):uQ (.ref n) (.str x) z h=some (h.set n (.dK (dI kvs (.inr x) z))):=by
 simp[uQ,e,nZ,c]
theorem Jp{n:Nat}{kvs:List (Key×PV)}(e:h[n]?=some (.dK kvs)):wM (.ref n) [] h=.ok (.ref h.length) (h++[.vw 0 n]):=by simp[wM,e]
theorem yX{n d:Nat}{kvs:List (Key×PV)}{kss:List (List Key)}(e1:h[n]?=some (.vw 0 d))(e2:h[d]?=some (.dK kvs))(ek:kvs.map (λkv=>PV.tup [kP kv.1,kv.2])=kss.map tP)(h1:kss.length<64)(h2:nH kss=true):
  gX [.ref n] h=.ok (.ref h.length) (h++[.lst ((cP kss).map tP)]):=by
 have e3:aN h n=none:=by simp[aN,e1]
 have e4:HM h n=some (kvs.map λkv=>PV.tup [kP kv.1,kv.2]):=by simp[HM,e1,e2]
 simp only[gX,e3,e4,ek,pR];rw[if_pos ⟨h1,h2⟩]
theorem BD{n:Nat}{kss:List (List Key)}(e1:h[n]?=some (.lst (kss.map tP)))(h1:kss.length<64)(h2:nH kss=true):
  gX [.ref n] h=.ok (.ref h.length) (h++[.lst ((cP kss).map tP)]):=by
 have e3:aN h n=some (kss.map tP):=by simp[aN,e1]
 simp only[gX,e3,Mn,pR];rw[if_pos ⟨h1,h2⟩]
theorem Dk{ps:List PV}{rs:List (Key×PV)}(e:kN ps=some rs):wK [.tup ps] h=.ok (.ref h.length) (h++[.dK (sF [] rs)]):=by simp[wK,e]
end
end L2
namespace L2
open PySem PySem.Spec PyProof.Rows
section
variable{C:MC}{k:Nat}{X:Cx}
def mD:PV->List PV->PH->Rs PV:=λx ps h=>match x,ps with
 |.ref n,[y,z]=>match nZ y with
  |some key=>match h[n]? with
   |some (.dK kvs)=>match aU kvs key with
    |some p=>.ok p h
    |none=>if kvs.length<aw then .ok z (h.set n (.dK (dI kvs key z))) else .bad
   |_=>.bad
  |none=>if y.isKt=true then(match cJ h n with
   |some kvs=>match aU kvs y with
    |some p=>.ok p h
    |none=>if kvs.length<aw then .ok z (h.set n (.dD (dI kvs y z))) else .bad
   |none=>.bad) else .bad
 |_,_=>.bad
theorem Mq{κ:Type}[DecidableEq κ](kvs:List (κ×PV))(a:κ)(p:PV):(dI kvs a p).length<=kvs.length+1:=by
 unfold dI;split
 ·rw[af];omega
 ·simp
theorem yY(c:Cxt C k X):MtR X "dict.setdefault" (rM C mD):=λpins s σ H x xs v us Q I rx rs h=>by
 obtain⟨φ,h,p,ps,rh,rp,rps,po⟩:=h;unfold mD at po;split at po
 ·rename_i n y z;obtain⟨a,rfl,ha⟩:=rp;cases rx
  obtain⟨yv,zv,rfl,ry,rz⟩:=rps.two;obtain⟨yu,zu,rfl,ryu,rzu⟩:=vals2 rs;split at po
  ·rename_i key hkey;split at po
   ·rename_i kvs hk;obtain⟨ks,hH,rk⟩:=rh.at' n a _ ha hk;have ey:=vW ry hkey;subst ey;obtain⟨hz,hd,vs,rel,dd⟩:=CP I.hok hH;have hzv:vs.length<=aw:=by rw[<-rel.length];exact hz
    have lv:=rX rk key;have rv:=rel.val key;refine jy mq dd.typeIs PySem.F.entry_dict_setdefault (PySem.F.args_dict_setdefault_3 _ _ _) (iZ (bL X.prog X.w) a hd (tO ryu) zu) ⟨vs,dd,hzv,λv e=>?_,λe h' dd' hs=>?_⟩
    ·rw[e]at rv;cases e1:iD ks key with
     |none=>rw[e1]at rv;exact rv.elim
     |some v1=>
      rw[e1]at rv lv;cases e2:aU kvs key with
      |none=>rw[e2]at lv;exact lv.elim
      |some p1=>
       rw[e2]at lv po;exact⟨v1,H,I.tok _,rv,po.val rh lv⟩
    ·rw[e]at rv;cases e1:iD ks key with
     |some v1=>rw[e1]at rv;exact rv.elim
     |none=>
      rw[e1]at lv;cases e2:aU kvs key with
      |some p1=>rw[e2]at lv;exact lv.elim
      |none=>
       rw[e2]at po;obtain⟨hl,po⟩:=po.ite;have hl':(putK ks key zv).length<=aw:=by
        have:=gQ ks key zv;have e3:=fj rk;omega
       have he:∃q,h'.get? a=some q:=let ⟨q,_,_,hq,_⟩:=dd';⟨q,hq⟩;refine⟨zv,upd H a (.dK (putK ks key zv)),pA I (by rw[hH];exact lp) hs he (Bb hl' hd (rel.put key rzu) dd'),rzu,?_⟩;have kp:Kp H (upd H a (.dK (putK ks key zv))):=Kp.dK hH;exact po φ zv _ az kp (rh.write ha (by rw[hH];exact lp) ⟨_,bF,(wJ rk key rz).mono az kp⟩) (rz.mono az kp)
   ·exact po.elim
  ·obtain⟨hk,po⟩:=po.ite;split at po
   ·rename_i kvs ht;obtain⟨b,rfl⟩:=jG hk ry;cases ryu
    obtain⟨⟨ks,xs,r,rx',hz,hm,dd⟩,mu,nt⟩:=wF I c.K c.w rh ha ht;have hv:=HD.val (a:=a) r rx' y;refine jy mq dd.typeIs PySem.F.entry_dict_setdefault (PySem.F.args_dict_setdefault_3 _ _ _) (jV (kC X.prog X.w) a b hm zu) ⟨c.room6,y,xs,wG I c.K hk ry,dd,hz,λp e=>?_,λe h' dd' hs=>?_⟩
    ·rw[e]at hv;cases e2:aU kvs y with
     |none=>rw[e2]at hv;exact hv.elim
     |some p1=>
      rw[e2]at hv po;obtain⟨v',rv1,rv2⟩:=hv;exact⟨v',H,I.tok _,rv1,po.val rh rv2⟩
    ·rw[e]at hv;cases e2:aU kvs y with
     |some p1=>rw[e2]at hv;exact hv.elim
     |none=>
      rw[e2]at po;obtain⟨hl,po⟩:=po.ite;obtain⟨ks',r1,r2⟩:=HD.put (a:=a) r rx' (jF hk) ry rz rzu;obtain⟨o,es,ep,hq,h2,h3,h4,_,h5⟩:=dd';have hl2:ks'.length<=aw:=by
       have e1:=fj r1;have e3:=Mq kvs y z;omega
      refine⟨zv,upd H a (dDO C.w a ks'),pA I mu hs ⟨o,hq⟩ ⟨⟨hl2,hm,_,r2,o,es,ep,hq,h2,h3,?_,h5⟩,⟨o,hq⟩,?_⟩,rzu,?_⟩
      ·rw[h4,<-c.w];rfl
      ·rintro g1 g2 ⟨z1,z2,ws,z3,o',es',ep',z4,z5⟩ keep;exact⟨z1,z2,ws,z3,o',es',ep',keep _ z4,z5⟩
      ·exact po φ zv _ az (Kp.upd nt) (rh.write ha nt ⟨ks',bF,RKd.mono az (Kp.upd nt) r1⟩) (rz.mono az (Kp.upd nt))
   ·exact po.elim
 ·exact po.elim
theorem BE:MtG C k X "dict" dQ "dict.setdefault" mD:=λc=>⟨yY c,pP c⟩
end
section
variable{C:MC}{k:Nat}{X:Cx}
def jH(h:PH)(d:Nat):Option (List PV):=match h[d]? with
 |some (.dK kvs)=>some (kvs.map (·.2))
 |some (.dD kvs)=>some (kvs.map (·.2))
 |_=>none
theorem Fv{prog:Program}{w:World}{K:Type}[DecidableEq K]{knd:KeyKind prog w K}{es:List DictEntry}{kvs:List (K×Value)}(h:Pairs knd es kvs):es.map (·.val)=kvs.map (·.2):=by
 apply i3;intro i;rw[au,au];have hl:=h.length
 by_cases hi:i<es.length
 ·have e1:es[i]?=some es[i]:=by simp[hi]
  have hi':i<kvs.length:=by omega
  have e2:kvs[i]?=some (kvs[i].1,kvs[i].2):=by simp[hi']
  rw[e1,e2];exact congrArg some (h.get? e1 e2).2
 ·rw[m9 (by omega),m9 (by omega)];rfl
theorem Dl{pins:List (Addr×Obj)}{σ:St}{H:Hp}{s:Shared}{φ:List Addr}{h:PH}{d:Nat}{b:Addr}{xs:List PV}(c:Cxt C k X)(I:Inv X pins σ H s)(rh:RH C φ H h)(hb:φ[d]?=some b)(e:jH h d=some xs):
  s.TypeIs (.ref b) "dict" /\ (b == f6)=false/\xs.length<=aw/\∃oc es ep,s.heap.get? b=some oc/\oc.data=.dict es ep/\∃ws,RVs C φ H xs ws/\aO ws (es.toList.map (·.val)):=by
 unfold jH at e;split at e
 ·rename_i kvs hk;cases e
  obtain⟨ks,hH,rk⟩:=rh.at' d b _ hb hk;obtain⟨z,hd,vs,rel,dd⟩:=CP I.hok hH;refine⟨dd.typeIs,hd,by rw[af,fj rk];exact z,?_⟩;obtain⟨oc,es,ep,g1,g2,g3,g4,g5,g6⟩:=dd;refine⟨oc,es,ep,g1,g3,ks.map (·.2),?_,?_⟩
  ·unfold RKv at rk;clear hk hH rel z
   induction rk with
   |nil=>trivial
   |cons q t ih=>exact⟨q.2,ih⟩
  ·rw[Fv g5];clear hk hH g4 g5 g6 z;unfold KV at rel;clear rk
   induction rel with
   |nil=>exact .nil
   |cons q t ih=>exact .cons q.2 ih
 ·rename_i kvs hk;cases e
  have ht:cJ h d=some kvs:=by unfold cJ;rw[hk]
  obtain⟨⟨ks,ys,r,rx',hz,hm,dd⟩,_⟩:=wF I c.K c.w rh hb ht;have hlen:kvs.length=ys.length:=(fj r).trans (fj rx');refine⟨dd.typeIs,hm,by rw[af,hlen];exact hz,?_⟩;obtain⟨oc,es,ep,g1,g2,g3,g4,g5,g6⟩:=dd;refine⟨oc,es,ep,g1,g3,ks.map (·.2.2),?_,?_⟩
  ·unfold RKd at r;clear hk ht rx' hlen
   induction r with
   |nil=>trivial
   |cons q t ih=>exact⟨q.2.2.2,ih⟩
  ·rw[g4,cu];clear hk ht r hlen hz g4 g5 g6
   induction rx' with
   |nil=>exact .nil
   |cons q t ih=>exact .cons q.2.2 ih
 ·cases e
def Dm:PV->List PV->PH->Rs PV:=λx ps h=>match x,ps with
 |.ref n,[]=>match jH h n with
  |some _=>.ok (.ref h.length) (h++[.vw 1 n])
  |none=>.bad
 |_,_=>.bad
theorem m_values:MtG C k X "dict" dQ "dict.values" Dm:=λc=>⟨λpins s σ H x xs v us Q I rx rs h=>by
 obtain⟨φ,h,p,ps,rh,rp,rps,po⟩:=h;unfold Dm at po;split at po
 ·rename_i n;split at po
  ·rename_i ys ey;obtain⟨a,rfl,ha⟩:=rp;have:xs=[]:=by cases xs <;> first|rfl|exact rps.elim
   subst this;cases rx
   cases rs
   obtain⟨hT,hm,_⟩:=Dl c I rh ha ey;refine jy PySem.F.slot_dict_values hT PySem.F.entry_dict_values (PySem.F.args_dict_values_1 _) (Bm a hm) ⟨hT,?_⟩;have fr:H s.heap.objs.size=none:=I.fresh;refine⟨.ref s.heap.objs.size,_,I.laid (t':=s.toks) (o:=S4 1 s.heap.objs.size a) (λb u e=>ag _ e) (ak _) ?_,rfl,?_⟩
   ·exact⟨⟨_,a7 _ rfl,rfl,rfl⟩,⟨_,a7 _ rfl⟩,λh1 h2 ⟨o,e,p⟩ k=>⟨o,k o e,p⟩⟩
   ·exact po (φ++[s.heap.objs.size]) (.ref _) _ (c8 _ _) (Kp.new fr) (rh.new fr ⟨a,gR (c8 _ _) ha,bF⟩) ⟨_,rfl,by rw[<-rh.len];simp⟩
  ·exact po.elim
 ·exact po.elim,pP c⟩
def wN(h:PH)(n:Nat):Option (List PV):=match h[n]? with
 |some (.vw 1 d)=>jH h d
 |_=>none
theorem Mr{es:Array DictEntry}{acc:Array Value}(h:ItemsOf (λi v=>∃e,es[i]?=some e/\v=e.val) acc es.size):acc.toList=es.toList.map (·.val):=by
 apply i3;intro i;rw[au,Array.getElem?_toList,Array.getElem?_toList]
 by_cases hi:i<acc.size
 ·have e1:acc[i]?=some acc[i]:=by simp[hi]
  obtain⟨e,h1,h2⟩:=h.2 i _ e1;rw[e1,h1,h2];rfl
 ·have hi':¬ i<es.size:=by rw[<-h.1];exact hi
  rw[Array.getElem?_eq_none (by omega),Array.getElem?_eq_none (by omega)];rfl
end
section
variable{h:PH}
theorem HP{n:Nat}(e:h[n]?=some (.dK [])):cJ h n=some []:=by simp[cJ,e]
theorem HQ{n:Nat}{kvs:List (PV×PV)}(e:h[n]?=some (.dD kvs)):cJ h n=some kvs:=by simp[cJ,e]
end
end L2
namespace L2
open PySem PySem.Spec PyProof.Rows PySem.SeqAt PySem.W
def Y5(l:List Nat):List Int:=l.map (λ(c:Nat)=>(c:Int)+2)++[1]
mutual
def enc:PV->List Int
 |.int i=>[i]
 |.str x=>Y5 x.cps.toList
 |.tup xs=>Wl xs
 |_=>[]
def Wl:List PV->List Int
 |[]=>[0]
 |x::xs=>1::(enc x++Wl xs)
end
def ltN(x y:PV):Bool:=decide (enc x<enc y)
section
variable{α:Type}(key:α->PV)
def Wm(x:α):List α->List α
 |[]=>[x]
 |y::ys=>if ltN (key y) (key x) then y::Wm x ys else x::y::ys
def Se:List α->List α
 |[]=>[]
 |x::xs=>Wm key x (Se xs)
end
section
variable{prog:Program}{w:World}{A:Around}{E:Value->Shared->Prop}{s:Shared}
def fk:PV->Nat
 |.tup (.int _::_)=>0
 |.tup (.str _::_)=>1
 |.tup (.tup _::_)=>2
 |_=>3
end
structure OkN(m:Nat)(xs:List PV):Prop where
 m3:m<3
 ky:∀x∈xs,x.ky 20=true
 fk:∀x∈xs,fk x=m
 lt:∀x∈xs,∀y∈xs,(ltP 20 x y).isSome=true
section
variable{C:MC}{k:Nat}{X:Cx}
def Ak:List PV->Option (List Str)
 |[]=>some []
 |.str x::r=>(Ak r).map (x::·)
 |_=>none
theorem Dn:∀ss:List Str,Ak (ss.map PV.str)=some ss
 |[]=>rfl
 |x::r=>by
  show(Ak (r.map PV.str)).map (x::·)=_
  rw[Dn r];rfl
theorem Do:∀{xs:List PV}{ss:List Str},Ak xs=some ss->xs=ss.map PV.str
 |[],ss,h=>by cases h;rfl
 |x::r,ss,h=>by
  cases x with
  |str z=>
   have h':(Ak r).map (z::·)=some ss:=h;obtain⟨t,ht,rfl⟩:=bc.mp h';rw[Do ht];rfl
  |_=>cases h
end
end L2
namespace L2
open PySem PySem.Spec PyProof.Rows
abbrev KP:=List Key×PV
def uB(x:KP):List KP->List KP
 |[]=>[x]
 |y::ys=>if bM y.1 x.1=true then y::uB x ys else x::y::ys
def gK:List KP->List KP
 |[]=>[]
 |x::xs=>uB x (gK xs)
theorem oD(x:KP):∀ys,(uB x ys).Perm (x::ys)
 |[]=>.refl _
 |y::ys=>by
  unfold uB;split
  ·exact((oD x ys).cons y).trans (.swap x y ys)
  ·exact .refl _
theorem gY:∀xs,(gK xs).Perm xs
 |[]=>.refl _
 |x::xs=>(oD x _).trans ((gY xs).cons x)
theorem pU{S:List Bool}{x:KP}(hx:shape x.1=S):∀{ys:List KP},(∀y∈ys,shape y.1=S)->ys.Pairwise (λa b=>bM b.1 a.1=false)->(uB x ys).Pairwise (λa b=>bM b.1 a.1=false)
 |[],_,_=>jf _ _
 |y::ys,hs,hp=>by
  have hy:=hs y ai;have hs':=λz hz=>hs z (aj _ hz);rw[dh]at hp;unfold uB;split
  ·rename_i h;rw[dh];refine⟨λz hz=>?_,pU hx hs' hp.2⟩;rcases ba.mp ((oD x ys).mem_iff.mp hz) with rfl|hz
   ·exact pE h
   ·exact hp.1 z hz
  ·rename_i h;have h':bM y.1 x.1=false:=by simpa using h
   rw[dh];refine⟨λz hz=>?_,dh.mpr hp⟩;rcases ba.mp hz with rfl|hz
   ·exact h'
   ·exact mB (hx.trans hy.symm) (hy.trans (hs' z hz).symm) h' (hp.1 z hz)
theorem hZ{S:List Bool}:∀{xs:List KP},(∀y∈xs,shape y.1=S)->(gK xs).Pairwise (λa b=>bM b.1 a.1=false)
 |[],_=>.nil
 |x::xs,hs=>pU (hs x ai) (λy hy=>hs y (aj _ ((gY xs).mem_iff.mp hy))) (hZ λy hy=>hs y (aj _ hy))
theorem Al{α β:Type}:∀{l:List (α×β)},(l.map (·.1)).Nodup->∀{a b:α×β},a∈l->b∈l->a.1=b.1->a=b
 |[],_,_,_,h,_,_=>nomatch h
 |x::l,nd,a,b,ha,hb,e=>by
  rw[a8,gz]at nd;rcases ba.mp ha with rfl|ha'
  ·rcases ba.mp hb with rfl|hb'
   ·rfl
   ·exact(nd.1 (aq.mpr ⟨b,hb',e.symm⟩)).elim
  ·rcases ba.mp hb with rfl|hb'
   ·exact(nd.1 (aq.mpr ⟨a,ha',e⟩)).elim
   ·exact Al nd.2 ha' hb' e
theorem wO{S:List Bool}{xs ys:List KP}(hs:∀y∈xs,shape y.1=S)(nd:(xs.map (·.1)).Nodup)(hp:ys.Perm xs)(h:ys.Pairwise (λa b=>bM b.1 a.1=false)):ys=gK xs:=by
 refine i8 (le:=λa b=>bM b.1 a.1=false) (λa b ha hb h1 h2=>?_) h (hZ hs) (hp.trans (gY xs).symm);have ha':=hp.mem_iff.mp ha;have hb':=(gY xs).mem_iff.mp hb;exact Al nd ha' hb' (jZ ((hs a ha').trans (hs b hb').symm) h2 h1)
open Classical in
noncomputable def sortBy(b:Bool)(ks ys:List PV):Option (List PV):=match jU ks with
 |some kss=>if kss.length<64/\kss.length=ys.length/\nH kss=true/\kss.Nodup then some ((o8 b (gK (kss.zip ys))).map (·.2)) else none
 |none=>none
theorem Jq{b:Bool}{kss:List (List Key)}{ys:List PV}(h1:kss.length<64)(h2:kss.length=ys.length)(h3:nH kss=true)(h4:kss.Nodup):sortBy b (kss.map tP) ys=some ((o8 b (gK (kss.zip ys))).map (·.2)):=by
 unfold sortBy;rw[pR];exact if_pos ⟨h1,h2,h3,h4⟩
noncomputable def gZ(f:Fn)(b:Bool)(ys:List PV):List PV->List PV->PH->Rs PV
 |[],ks,h=>match sortBy b ks ys with
  |some zs=>.ok (.ref h.length) (h++[.lst zs])
  |none=>.bad
 |x::xs,ks,h=>(f [x] h).bind λk h1=>gZ f b ys xs (ks++[k]) h1
def iA(x:PV)(h:PH):Option (List PV):=match x with
 |.ref n=>match aN h n with
  |some ys=>some ys
  |none=>wN h n
 |.fl ys=>some ys
 |_=>none
noncomputable def kQ(f:Fn)(b:Bool)(x:PV)(h:PH):Rs PV:=match iA x h with
 |some ys=>if ys.length<64 then gZ f b ys ys [] h else .bad
 |none=>.bad
noncomputable def sH(f:Fn)(b:Bool)(me:Me):Me:=λδ h=>(me δ h).bind λx h1=>kQ f b x h1
section
variable{C:MC}{k:Nat}{X:Cx}
theorem RVs.pick{φ:List Addr}{H:Hp}{xs:List PV}{vs:List V}(r:RVs C φ H xs vs):∀{p:List Nat},(∀i∈p,i<xs.length)->RVs C φ H (p.map λi=>xs.getD i .non) (p.map λi=>vs.getD i .non)
 |[],_=>trivial
 |i::p,h=>by
  have hi:=h i ai;have g:xs[i]?=some (xs.getD i .non):=by simp[hi]
  obtain⟨v,hv,hr⟩:=r.at g;have e:vs.getD i .non=v:=by simp[ip,hv]
  refine⟨?_,RVs.pick r λj hj=>h j (aj _ hj)⟩
  show RV C φ H (xs.getD i .non) (vs.getD i .non)
  rw[e];exact hr
theorem wQ{pins:List (Addr×Obj)}{σ:St}{H:Hp}{s:Shared}(I:Inv X pins σ H s){a:Addr}(ha:s.heap.objs.size<=a):X.s₀.heap.objs.size<=a/\a≠X.env.locals/\(∀x c,X.env.cells.lookup x=some c->c≠a)/\(∀p∈X.pn++pins,p.1≠a)/\a∉X.fs:=by
 refine⟨df I.sz ha,Nat.ne_of_gt (bj I.lt ha),λx c e z=>?_,λp hp z=>?_,I.nofs ha⟩
 ·obtain⟨v,o,ho,_⟩:=I.cell x c e;rw[z]at ho;exact absurd (bj (ax ho) ha) (gj _)
 ·have ho:=(I.pin p hp).1;rw[z]at ho;exact absurd (bj (ax ho) ha) (gj _)
theorem hV{its:Array Value}{e:Nat}:∀v,(seqObj "list" its e).data≠.cell v:=λv z=>nomatch z
theorem Inv.adopt{pins:List (Addr×Obj)}{σ:St}{H:Hp}{s:Shared}{a d:Addr}{o:HO}{h':Heap}(I:Inv X pins σ H s)(ha:H a=none)(hd:H d=none)
  (fa:X.s₀.heap.objs.size<=a/\a≠X.env.locals/\(∀x c,X.env.cells.lookup x=some c->c≠a)/\(∀p∈X.pn++pins,p.1≠a)/\a∉X.fs) (fd:X.s₀.heap.objs.size<=d/\d≠X.env.locals/\(∀x c,X.env.cells.lookup x=some c->c≠d)/\(∀p∈X.pn++pins,p.1≠d)/\d∉X.fs)
  (kp:∀x u,x≠a->x≠d->s.heap.get? x=some u->h'.get? x=some u) (new:cK X.prog X.w (upd H a o) h' a o):Inv X pins σ (upd H a o) { s with heap:=h' }:=by
 have na:∀x u,H x=some u->x≠a:=λx u e z=>by rw[z,ha]at e;cases e
 have nd:∀x u,H x=some u->x≠d:=λx u e z=>by rw[z,hd]at e;cases e
 refine I.call' (s':={ s with heap:=h' }) (ch:=[a,d]) rfl ⟨λb u q n _ hx=>?_,λb u q n _ hx=>⟨u.slots,?_⟩,λb u q n hx=>?_,λb u q hx=>⟨u,?_⟩,λb xs q=>?_,λb u xs q=>?_,λb ps q=>⟨#[],?_⟩⟩ (λb u e=>?_) I.bare λb hb=>?_
 ·exact kp b u (λz=>hx (by simp[z])) (λz=>hx (by simp[z])) q
 ·exact kp b u (λz=>hx (by simp[z])) (λz=>hx (by simp[z])) q
 ·rw[bG (λz=>hx (by simp[z]))];exact n
 ·exact kp b u (λz=>hx (by simp[z])) (λz=>hx (by simp[z])) q
 ·rw[bG (na _ _ q)];exact q
 ·rw[bG (na _ _ q)];exact q
 ·rw[bG (na _ _ q),q];simp
 ·by_cases hb:b=a
  ·subst hb;rw[bF]at e;cases e;exact new
  ·rw[bG hb]at e;refine(I.hok b u e).stay (λc v hc q=>kp c v ?_ ?_ q) (λc q=>by rw[bG (na _ _ q)];exact q) λc xs q=>by rw[bG (na _ _ q)];exact q
   ·rcases hc with z|z
    ·rw[z];exact hb
    ·exact na _ _ z
   ·rcases hc with z|z
    ·rw[z];exact nd _ _ e
    ·exact nd _ _ z
 ·rcases ba.mp hb with rfl|hb
  ·exact⟨.inr fa.1,fa.2.1,fa.2.2.1,fa.2.2.2.1⟩
  ·rw[bf.mp hb];exact⟨.inr fd.1,fd.2.1,fd.2.2.1,fd.2.2.2.1⟩
def TN(C:MC)(X:Cx)(pins:List (Addr×Obj))(σ:St)(φ:List Addr)(H:Hp)(f:Fn)(b:Bool)(ys:List PV)(Q:VK)(a z:Addr)(kS:Addr)(e1:Nat)(ks:List Value)(e:Nat)(s':Shared):Prop:=
 z<kS/\∃H' φ' h' zs ps,Inv X (pins++[(kS,seqObj "list" ks.toArray e),(a,seqObj "list" #[] e1)]) σ H' s'/\φ<+:φ'/\Kp H H'/\RH C φ' H' h'/\aO zs ks/\RVs C φ' H' ps zs/\post C φ' H' (gZ f b ys (ys.drop ks.length) ps h') Q
section
variable{x:Str}{st:Stmt}{q:Addr}{fd:c5}{pn:List Str}{j:Nat}{f:Fn}
theorem Mt{pins:List (Addr×Obj)}{σ:St}{φ:List Addr}{H:Hp}{b:Bool}{ys:List PV}{us:List V}{its:List Value}{Q:VK}{a:Addr}(c:Cxt C k X)(D:Def C.K X.mg x st q fd pn)(G:aV X.prog X.w C.K X.mg X.base CX0 j q fd pn (spM C 1 f))(hj:j+2<=k)
  (ry:RVs C φ H ys us) (rv:aO us its) {A':Around} (eA:A'=X.A.in1.in1) (fr:∀kS,a<=kS->X.s₀.heap.objs.size<=kS/\kS≠X.env.locals/\(∀x c,X.env.cells.lookup x=some c->c≠kS)/\(∀p∈X.pn++pins,p.1≠kS)/\kS∉X.fs)
  (kS:Addr) (e1:Nat) (ks:List Value) (e:Nat) (s':Shared) (y:Value) (hy:its[ks.length]?=some y) (hJ:TN C X pins σ φ H f b ys Q a a kS e1 ks e s'):
  wpAny (model X.prog X.w) A' (call (.ref q) [y]) (λv s''=>s''.heap.get? kS=some (seqObj "list" ks.toArray e)/\∀(h':Heap) e',gq kS s''.heap h'->h'.get? kS=some (seqObj "list" (ks++[v]).toArray e')->TN C X pins σ φ H f b ys Q a a kS e1 (ks++[v]) e' { s'' with heap:=h' }) (λ_ _=>False) s':=by
 subst eA;obtain⟨hz,H',φ',h',zs,ps,I,pp,tt,rh,rz,rp,po⟩:=hJ;have hlt:ks.length<its.length:=(ab.mp hy).1;have hlu:us.length=its.length:=rv.length;have hly:ys.length=us.length:=ry.length;have gy:ys[ks.length]?=some (ys[ks.length]'(by omega)):=by simp
 obtain⟨u,hu,ru⟩:=ry.at gy;obtain⟨y',hy',ryv⟩:=rv.get hu;rw[hy]at hy';cases hy'
 have hd:ys.drop ks.length=ys[ks.length]'(by omega)::ys.drop (ks.length+1):=drop_cons gy;rw[hd]at po;have e1':=c.K;have G':aV X.prog X.w X.K X.mg X.base CX0 j q fd pn (spM C 1 f):=by rw[e1'];exact G
 have D':Def X.K X.mg x st q fd pn:=by rw[e1'];exact D
 have sp1:spM C 1 f [u] H' (λv H2=>∃φ2 p h2,φ'<+:φ2/\Kp H' H2/\RH C φ2 H2 h2/\RV C φ2 H2 p v/\post C φ2 H2 (gZ f b ys (ys.drop (ks.length+1)) (ps++[p]) h2) Q) E0:=
  ⟨φ',h',[ys[ks.length]'(by omega)],rh,⟨ru.mono pp tt,trivial⟩,rfl,post.bind po⟩
 have hl:([y]:List Value).length=pn.length:=G'.len _ _ _ _ sp1;refine wpAny_call (codeAny_mono (G'.run X.A.in1.in1 X.stack s' H' ⟨[y],[]⟩ [y] [u] _ E0 ((c.room.mono hj).in1.in1) I.env0.in1.in1 (by
  have:=D'.bd s' [y] I.kIn (by simpa using hl)
  simpa using this) (.cons ryv .nil) sp1) λr s2 hq=>?_)
 cases r with
 |error e=>exact hq.elim
 |ok fl=>
  cases fl with
  |next=>exact iy hq
  |brk=>exact iy hq
  |cont=>exact iy hq
  |ret v=>
   obtain⟨x2,H2,I2,rx2,φ2,p2,h2,pp2,tt2,rh2,rp2,po2⟩:=I.after hq;have gk:=I2.pin (kS,seqObj "list" ks.toArray e) (ao _ (ao _ ai));have ga:=I2.pin (a,seqObj "list" #[] e1) (ao _ (ao _ (aj _ ai)));refine⟨gk.1,λg e' sb he'=>?_⟩;have fk:=fr kS (i4 hz);have nak:a≠kS:=a9 hz;have I3:Inv X (pins++[(a,seqObj "list" #[] e1)]) σ H2 s2:=I2.pins_of λp hp=>(bh.mp hp).elim (λz=>I2.pin p (ao _ (ij _ z))) λz=>by
    rw[bf.mp z];exact ga
   have I4:=I3.turned (t':=s2.toks) (it:=kS) (h':=g) (λb' o' hb hq=>(sb.2 b' hb).trans hq) gk.2.1 fk.2.1 (.inr fk.1) fk.2.2.1 (λp hp=>by
    rcases bh.mp hp with hp|hp
    ·exact fk.2.2.2.1 p (ij _ hp)
    ·rcases bh.mp hp with hp|hp
     ·exact fk.2.2.2.1 p (ao _ hp)
     ·rw[bf.mp hp];exact nak)
   refine⟨hz,H2,φ2,h2,zs++[x2],ps++[p2],I4.pins_of λp hp=>?_,pp.trans pp2,tt.trans tt2,rh2,rz.append (.cons rx2 .nil),(rp.mono pp2 tt2).snoc rp2,?_⟩
   ·rcases bh.mp hp with hp|hp
    ·exact I4.pin p (ao _ (ij _ hp))
    ·rcases ba.mp hp with rfl|hp
     ·exact⟨he',gk.2.1,fk.2.1,fk.2.2.2.2,hV⟩
     ·rw[bf.mp hp];exact I4.pin _ (ao _ (ao _ ai))
   ·rw[fg];exact po2
theorem Dp{b:Bool}{kss:List (List Key)}{ys:List PV}{S:List Bool}(hl:kss.length=ys.length)(hs:∀y∈kss,shape y=S)(nd:kss.Nodup){p:List Nat}(hp:p.Perm (av ys.length))
  (ho:p.Pairwise (λi j=>(if b then bM (kss.getD i []) (kss.getD j []) else bM (kss.getD j []) (kss.getD i []))=false)):p.map (λi=>ys.getD i .non)=(o8 b (gK (kss.zip ys))).map (·.2):=by
 let zs:=kss.zip ys;have hzl:zs.length=ys.length:=by show(kss.zip ys).length=_;simp[hl]
 have hin:∀i∈p,i<ys.length:=λi hi=>by simpa using hp.mem_iff.mp hi
 have eg:∀i,i<ys.length->zs.getD i ([],.non)=(kss.getD i [],ys.getD i .non):=λi hi=>by
  have h1:i<kss.length:=by omega
  have h2:i<zs.length:=by omega
  have h3:(kss.zip ys)[i]?=some (kss[i],ys[i]):=by
   rw[List.getElem?_zip_eq_some];exact⟨by simp[h1],by simp[hi]⟩
  show(kss.zip ys).getD i _=_
  simp[h1,hi,h3]
 have hpz:(p.map λi=>zs.getD i ([],.non)).Perm zs:=A9 (by rw[hzl];exact hp);have hm:zs.map (·.1)=kss:=by
  show(kss.zip ys).map Prod.fst=kss
  exact List.map_fst_zip (by omega)
 have hsz:∀y∈zs,shape y.1=S:=λy hy=>hs _ (by rw[<-hm];exact aq.mpr ⟨y,hy,rfl⟩);have e2:p.map (λi=>ys.getD i .non)=(p.map λi=>zs.getD i ([],.non)).map (·.2):=by
  rw[cu];exact d8 λi hi=>by show _=(zs.getD i _).2;rw[eg i (hin i hi)]
 rw[e2];have key:∀(R:Nat->Nat->Bool),p.Pairwise (λi j=>R i j=false)->(∀i j,i<ys.length->j<ys.length->R i j=bM (zs.getD j ([],.non)).1 (zs.getD i ([],.non)).1)->(p.map λi=>zs.getD i ([],.non)).Pairwise (λx y=>bM y.1 x.1=false):=λR h1 h2=>by
  rw[dt];exact h1.imp_of_mem λ{i j} hi hj h=>by rw[<-h2 i j (hin i hi) (hin j hj)];exact h
 cases b with
 |false=>
  congr 1
  refine wO hsz (by rw[hm];exact nd) hpz (key (λi j=>bM (kss.getD j []) (kss.getD i [])) ho λi j hi hj=>by rw[eg i hi,eg j hj])
 |true=>
  congr 1
  have hr:(p.map λi=>zs.getD i ([],.non)).reverse=gK zs:=by
   refine wO hsz (by rw[hm];exact nd) ((List.reverse_perm _).trans hpz) ?_;rw[List.pairwise_reverse,dt];exact ho.imp_of_mem λ{i j} hi hj h=>by
    rw[eg i (hin i hi),eg j (hin j hj)];exact h
  show _=(gK zs).reverse
  rw[<-hr,List.reverse_reverse]
theorem wR{b:Bool}{kw:List (Str×Value)}(c:Cxt C k X)(D:Def C.K X.mg x st q fd pn)(G:aV X.prog X.w C.K X.mg X.base CX0 j q fd pn (spM C 1 f))(hj:j+2<=k)
  (ha1:∀v,argsOk "sorted" ⟨[v],kw⟩) (ha2:∀v,argsOk "list.sort" ⟨[.ref v],kw⟩) (ht:∀v,Builtin.«list.sort» ⟨[.ref v],kw⟩=ksk_tree v (.ref q) b)
  {pins:List (Addr×Obj)} {s:Shared} {σ:St} {H:Hp} {Q:VK} {v:V} {u:Value} (I:Inv X pins σ H s) (ru:RelV v u) (h:r1 C (kQ f b) v H Q):
  wpAny (model X.prog X.w) X.A (call (.builtin "sorted") [u] kw) (EP X pins σ Q) X.xe s:=by
 obtain⟨φ,h,p,rh,rp,po⟩:=h;unfold kQ at po;cases ei:iA p h with
 |none=>rw[ei]at po;exact po.elim
 |some ys=>
 rw[ei]at po;obtain⟨h64,po⟩:=po.ite;refine call_function_entry_kw kind_sorted plain_sorted entry_sorted (ha1 u) ?_;unfold Builtin.«sorted»;refine aa (m:=checkCount "sorted" 1 1 _) (ae ?_);have col:wpAny (model X.prog X.w) X.A.in1 (collect u) (λits s1=>∃us,Inv X pins σ H s1/\aO us its/\RVs C φ H ys us) X.xe s:=by
  have lcase:∀{a:Addr}{vs:List V},v=.ref a->SqL C.K H a vs->RVs C φ H ys vs->wpAny (model X.prog X.w) X.A.in1 (collect u) (λits s1=>∃us,Inv X pins σ H s1/\aO us its/\RVs C φ H ys us) X.xe s:=λ{a vs} ev sa ra=>by
   subst ev;cases ru
   have sa':SqL X.K H a vs:=by rw[c.K];exact sa
   obtain⟨its,rv,pl,hz⟩:=I.list sa';refine collect_list pl.isList ?_ (by have:=rv.length;have:=ra.length;rw[cx];omega);exact⟨vs,I.kept (t':=s.toks) λb o e=>by
    have hlt:b<s.heap.objs.size:=ax e
    first
     |(rw[k7 _ _ _ _ (a9 hlt),ka _ _ _ (a9 hlt)];exact e)
     |exact ag _ e,rv,ra⟩
  unfold iA at ei;split at ei
  ·rename_i n;split at ei
   ·rename_i ys' e;cases ei
    obtain⟨a,ev,ha⟩:=rp;obtain⟨a2,vs,ha2,sa,ra⟩:=bJ rh e;rw[ha]at ha2;cases ha2;exact lcase ev sa ra
   ·unfold wN at ei;split at ei
    ·rename_i d hv;obtain⟨a,ev,ha⟩:=rp;subst ev;cases ru
     obtain⟨bb,hb,hH⟩:=rh.at' n a _ ha hv;obtain⟨hT,hm,hz,oc,es,ep,g1,g2,ws,r1,r2⟩:=Dl c I rh hb ei;have hvv:s.heap.IsValuesView a bb:=(I.hok a _ hH).1;have hn:es.size<=aw:=by
      have e1:=r1.length;have e2:ws.length=es.size:=by have:=r2.length;simpa using this
      rw[<-e2,<-e1];exact hz
     refine PySem.W.kdu_collect (LB (r:=a) g2) (I.ok.hd c.calm) ⟨hvv,g1⟩ hn λh' tk acc hk hacc=>?_;exact⟨ws,I.kept (t':=tk) hk,by rw[Mr hacc];exact r2,r1⟩
    ·cases ei
  ·cases ei
   obtain⟨a,vs,ev,sa,ra⟩:=rp;exact lcase ev sa.sq ra
  ·cases ei
 refine aa (ix col (λits s1 hh=>?_) λ_ _ z=>z);obtain⟨us,I1,rv,ry⟩:=hh;have hlu:us.length=its.length:=rv.length;have hly:ys.length=us.length:=ry.length;refine aa (wpAny_newList ?_ (by rw[cx];omega));have hoL:(s1.heap.push (seqObj "list" its.toArray 0)).get? s1.heap.objs.size=some (seqObj "list" its.toArray 0):=a7 _ rfl;have keep:∀b o,s1.heap.get? b=some o->b≠s1.heap.objs.size/\(s1.heap.push (seqObj "list" its.toArray 0)).get? b=some o:=λb o q=>⟨a9 (ax q),ag _ q⟩;have fr:∀kS,s1.heap.objs.size<=kS->X.s₀.heap.objs.size<=kS/\kS≠X.env.locals/\(∀x c,X.env.cells.lookup x=some c->c≠kS)/\(∀p∈X.pn++pins,p.1≠kS)/\kS∉X.fs:=λkS hk=>wQ I1 hk
 show wpAny _ _ _ _ _ { s1 with heap:=s1.heap.push (seqObj "list" its.toArray 0) }
 refine aa (c6 (wpAny_call_entry_kw slot_list_sort ⟨_,hoL,rfl⟩ entry_list_sort ?body (ha2 _)))
 case body=>
  show wpAny (model X.prog X.w) X.A.in1.in1 (Builtin.«list.sort» ⟨[.ref s1.heap.objs.size],kw⟩) _ _ _
  rw[ht s1.heap.objs.size];refine Fh (s:={ s1 with heap:=s1.heap.push (seqObj "list" its.toArray 0) }) (a:=s1.heap.objs.size) (κ:=tuples' true) (vs:=its) hoL (by omega) (TN C X pins σ φ H f b ys Q s1.heap.objs.size s1.heap.objs.size) ?h0 ?hget ?turn ?fin
  case h0=>
   intro kS e1 h' kp hk g1 g2;have hk':s1.heap.objs.size<kS:=by
    have:(s1.heap.push (seqObj "list" its.toArray 0)).objs.size<=kS:=hk;rw[lu]at this;exact this
   have I2:Inv X pins σ H { s1 with heap:=h' }:=I1.kept (t':=s1.toks) λb o q=>kp b o (keep b o q).1 (keep b o q).2;have fk:=fr kS (i4 hk');have fa:=fr s1.heap.objs.size (ak _);refine⟨hk',H,φ,h,[],[],I2.pins_of λp hp=>?_,az,Kp.refl H,rh,.nil,trivial,po⟩;rcases bh.mp hp with hp|hp
   ·exact I2.pin p (ao _ hp)
   ·rcases ba.mp hp with rfl|hp
    ·exact⟨g2,I1.hok.fresh (i4 hk'),fk.2.1,fk.2.2.2.2,hV⟩
    ·rw[bf.mp hp];exact⟨g1,I1.hok.fresh (ak _),fa.2.1,fa.2.2.2.2,hV⟩
  case hget=>
   rintro kS e1 ks e s' ⟨hz,H',φ',h',zs,ps,I',_⟩;exact⟨Nat.ne_of_gt hz,(I'.pin (s1.heap.objs.size,seqObj "list" #[] e1) (ao _ (ao _ (aj _ ai)))).1,(I'.pin (kS,seqObj "list" ks.toArray e) (ao _ (ao _ ai))).1⟩
  case turn=>
   intro kS e1 ks e s' y hy hJ;exact Mt c D G hj ry rv rfl fr kS e1 ks e s' y hy hJ
  case fin=>
   rintro kS e1 ks e s' hl ⟨hz,H',φ',h',zs,ps,I',pp,tt,rh',rz,rp',po'⟩;have hd:ys.drop ks.length=[]:=List.drop_eq_nil_of_le (by omega);rw[hd]at po';unfold gZ at po';cases es:sortBy b ps ys with
   |none=>rw[es]at po';exact po'.elim
   |some out=>
   rw[es]at po';unfold sortBy at es;split at es
   ·rename_i kss ek;split at es
    ·rename_i hc;obtain⟨hc1,hc2,hc3,hc4⟩:=hc;cases es
     have ep:=wL ek;subst ep;obtain⟨bb,sh,hsh⟩:=oC hc3;have rr:cD X.K H' (kss.map tD) zs:=by rw[c.K];exact pT.mp rp'
     have tk:=nY I' rr rz;have shOf:∀i,i<its.length->shape (kss.getD i [])=bb::sh:=λi hi=>by
      have hi':i<kss.length:=by omega
      have:kss.getD i []=kss[i]:=by simp[hi']
      rw[this];exact hsh _ (dr hi')
     refine⟨λi j=>bM (kss.getD i []) (kss.getD j []),λi j k hi hj hk h1 h2=>?_,λi j _ _ h=>pE h,λh2 Q' E' hq=>?_,λi j hi hj Q' hq=>?_,λp g e2 a1 a2 kp he gk=>?_⟩
     ·exact mB ((shOf i hi).trans (shOf j hj).symm) ((shOf j hj).trans (shOf k hk).symm) h1 h2
     ·exact A8 tk hsh (by omega) hq
     ·obtain⟨a,ua,q1,p1,r1⟩:=tk.get (i:=i) (by omega);obtain⟨d,ud,q2,p2,r2⟩:=tk.get (i:=j) (by omega);rw[q1,q2];exact vR p1 p2 r1 r2 ((shOf i hi).trans (shOf j hj).symm) hq
     ·have hin:∀i∈p,i<its.length:=λi hi=>by simpa using a1.mem_iff.mp hi
      have fa:=fr s1.heap.objs.size (ak _);have fk:=fr kS (i4 hz);have gka:=I'.pin (kS,seqObj "list" ks.toArray e) (ao _ (ao _ ai));have gaa:=I'.pin (s1.heap.objs.size,seqObj "list" #[] e1) (ao _ (ao _ (aj _ ai)));have I5:Inv X pins σ H' s':=I'.unpinned;have I6:=I5.adopt (a:=s1.heap.objs.size) (d:=kS) (o:=.lst (p.map λi=>us.getD i .non)) (h':=g) gaa.2.1 gka.2.1 fa fk (λx o h1 h2 q=>kp x o h1 h2 q) (by
       refine⟨?_,p.map (λi=>its.getD i cy),e2,rS rv (λi hi=>by have:=hin i hi;omega),he⟩;rw[af,a1.length_eq,jj,cx];omega)
      refine⟨_,rfl,ae ⟨_,rfl,.ref s1.heap.objs.size,_,I6,rfl,?_⟩⟩;refine po'.lnew rh' ?_ gaa.2.1;rw[<-Dp (b:=b) hc2 hsh hc4 (p:=p) (by rw[hly,hlu];exact a1) a2];exact(ry.mono pp tt).pick (λi hi=>by have:=hin i hi;omega)
    ·cases es
   ·cases es
end
section
variable{kf:Str}{st:Stmt}{q:Addr}{fd:c5}{pn:List Str}{j jb:Nat}{f:Fn}{e:Expr}{me:Me}{p pos kp kpos rp rpos:Pos}
theorem Dq{Q:VK}{b:Bool}{σ:St}{H:Hp}(h:rd C (sH f b me) σ H Q):Lc (rd C me) SV σ H λvs H1=>∃x,vs=[x]/\r1 C (kQ f b) x H1 Q:=by
 obtain⟨φ,δ,h,rh,re,po⟩:=h;refine⟨φ,δ,h,rh,re,(post.bind po).imp ?_⟩;rintro v H1 ⟨φ1,x,h1,p1,t1,rh1,rv1,q1⟩;exact⟨v,rfl,φ1,h1,x,rh1,rv1,q1⟩
theorem Q4(D:Def C.K X.mg kf st q fd pn)(G:aV X.prog X.w C.K X.mg X.base CX0 j q fd pn (spM C 1 f))(he:SE C k X e me)(hb:("sorted" : Str)∈C.bs)(hj:j+2<=k:=by decide)(hg:Gl X "sorted" := by rfl)(hgk:Gl X kf:=by rfl)(hdk:(kf == ("__debug__" : Str))=false:=by decide)
  (hst:bu [e] X.env=(false,eval e X.env)::bu [] X.env:=by rfl) (hbk:backTo pos (bu [e] X.env)=(false,eval e X.env)::backTo pos (bu [] X.env):=by rfl) (hpl:(backTo pos (bu [e] X.env)).any (·.1)=false:=by rfl):
  SE C k X (.Call (.Name "sorted" p) [e] [⟨some "key",.Name kf kp,kpos⟩] pos) (sH f false me):=λc pins s σ H Q I h=>by
 refine jr (rD I hg (c.bn _ hb) PyProof.Rows.Boot.«sorted» ?_ (by decide) (by decide));refine callWith_kw (thn (lY (he c) rE hst pos pins s σ H _ I (Dq h)) λus s1 hh=>?_) hbk hpl;obtain⟨vs,H1,I1,rv,x,rfl,r⟩:=hh;obtain⟨u,rfl,ru⟩:=vals1 rv;refine kws_cons (uS I1 hgk D.mg (kws_nil ?_) hdk)
 show wpAny _ _ (call (.builtin "sorted") [u] [(jt "key",.ref q)]) _ _ _
 exact wR c D G hj (λv=>ksk_s1 _ _) (λv=>ksk_l1 _ _) (λv=>ksk_t1 _ _) I1 ru r
theorem Mu{b:Bool}(D:Def C.K X.mg kf st q fd pn)(G:aV X.prog X.w C.K X.mg X.base CX0 j q fd pn (spM C 1 f))(he:SE C k X e me)(hb:("sorted" : Str)∈C.bs)(hj:j+2<=k:=by decide)(hg:Gl X "sorted" := by rfl)(hgk:Gl X kf:=by rfl)(hdk:(kf == ("__debug__" : Str))=false:=by decide)
  (hst:bu [e] X.env=(false,eval e X.env)::bu [] X.env:=by rfl) (hbk:backTo pos (bu [e] X.env)=(false,eval e X.env)::backTo pos (bu [] X.env):=by rfl) (hpl:(backTo pos (bu [e] X.env)).any (·.1)=false:=by rfl):
  SE C k X (.Call (.Name "sorted" p) [e] [⟨some "key",.Name kf kp,kpos⟩,⟨some "reverse",.Constant (.bool b) jb rp,rpos⟩] pos) (sH f b me):=λc pins s σ H Q I h=>by
 refine jr (rD I hg (c.bn _ hb) PyProof.Rows.Boot.«sorted» ?_ (by decide) (by decide));refine callWith_kw (thn (lY (he c) rE hst pos pins s σ H _ I (Dq h)) λus s1 hh=>?_) hbk hpl;obtain⟨vs,H1,I1,rv,x,rfl,r⟩:=hh;obtain⟨u,rfl,ru⟩:=vals1 rv;refine kws_cons (uS I1 hgk D.mg (kws_cons (Constant_bool (kws_nil ?_))) hdk)
 show wpAny _ _ (call (.builtin "sorted") [u] [(jt "key",.ref q),(jt "reverse",.bool b)]) _ _ _
 exact wR c D G hj (λv=>ksk_s2 _ _ _) (λv=>ksk_l2 _ _ _) (λv=>ksk_t2 _ _ _) I1 ru r
end
end
end L2
namespace L2
open PySem
section
variable{α:Type}(key:α->List Key)
def Jr(x:α):List α->List α
 |[]=>[x]
 |y::ys=>if bM (key y) (key x)=true then y::Jr x ys else x::y::ys
def kR:List α->List α
 |[]=>[]
 |x::xs=>Jr key x (kR xs)
variable{key}
theorem Am(x:α):∀ys,(Jr key x ys).Perm (x::ys)
 |[]=>.refl _
 |y::ys=>by
  unfold Jr;split
  ·exact((Am x ys).cons y).trans (.swap x y ys)
  ·exact .refl _
theorem oE:∀xs,(kR key xs).Perm xs
 |[]=>.refl _
 |x::xs=>(Am x _).trans ((oE xs).cons x)
theorem Dr(f:α->PV)(x:α):∀ys:List α,uB (key x,f x) (ys.map λy=>(key y,f y))=(Jr key x ys).map λy=>(key y,f y)
 |[]=>rfl
 |y::ys=>by
  rw[a8];unfold uB Jr;dsimp only;split
  ·rw[Dr f x ys];rfl
  ·rfl
theorem sI(f:α->PV):∀xs:List α,gK (xs.map λy=>(key y,f y))=(kR key xs).map λy=>(key y,f y)
 |[]=>rfl
 |x::xs=>by
  rw[a8];unfold gK kR;rw[sI f xs,Dr]
theorem BF{S:List Bool}(f:α->PV){xs:List α}(hs:∀x∈xs,shape (key x)=S):(kR key xs).Pairwise (λa b=>bM (key b) (key a)=false):=by
 have h:=hZ (S:=S) (xs:=xs.map λy=>(key y,f y)) (λy hy=>by
  obtain⟨x,hx,rfl⟩:=aq.mp hy;exact hs x hx)
 rw[sI,dt]at h;exact h
theorem Ds{β γ:Type}(f:α->β)(g:α->γ):∀xs:List α,(xs.map f).zip (xs.map g)=xs.map λx=>(f x,g x)
 |[]=>rfl
 |x::xs=>by simp[Ds f g xs]
theorem Mv{b:Bool}{f:α->PV}{xs:List α}(h1:xs.length<64)(h3:nH (xs.map key)=true)(h4:(xs.map key).Nodup):sortBy b ((xs.map key).map tP) (xs.map f)=some ((o8 b (kR key xs)).map f):=by
 rw[Jq (by simpa using h1) (by simp) h3 h4,Ds,sI]
 cases b with
 |false=>
  show some (((kR key xs).map λy=>(key y,f y)).map Prod.snd)=some ((kR key xs).map f)
  rw[cu];rfl
 |true=>
  show some ((((kR key xs).map λy=>(key y,f y)).reverse).map Prod.snd)=some ((kR key xs).reverse.map f)
  rw[<-List.map_reverse,cu];rfl
theorem Mw{f:Fn}{b:Bool}{emb:α->PV}{ys zs:List PV}{Q:PV->PH->Prop}:∀(r done:List α)(h:PH),(∀d∈r,∀h(Q:PV->PH->Prop),(∀h',Ext h h'->Q (tP (key d)) h')->(f [emb d] h).W Q)->
  sortBy b (((done++r).map key).map tP) ys=some zs->(∀h',Ext h h'->Q (.ref h'.length) (h'++[.lst zs]))->(gZ f b ys (r.map emb) ((done.map key).map tP) h).W Q
 |[],done,h,_,hs,k=>by
  rw[oj]at hs;simp only[List.map_nil,gZ,hs,kK];exact k h (Ext.refl h)
 |x::r,done,h,hf,hs,k=>by
  rw[a8];unfold gZ;rw[Bu];refine hf x ai h _ λh1 x1=>?_;have e:(done.map key).map tP++[tP (key x)]=((done++[x]).map key).map tP:=by simp
  rw[e];exact Mw r (done++[x]) h1 (λd hd=>hf d (aj _ hd)) (by rw[List.append_assoc];exact hs) λh' x2=>k h' (x1.trans x2)
theorem HU{f:Fn}{b:Bool}{emb:α->PV}{xs:List α}{x:PV}{h:PH}{Q:PV->PH->Prop}{S:List Bool}(e:iA x h=some (xs.map emb))(h1:xs.length<64)(h3:nH (xs.map key)=true)(hs:∀x∈xs,shape (key x)=S)(h4:(xs.map key).Nodup)
  (hf:∀d∈xs,∀h(Q:PV->PH->Prop),(∀h',Ext h h'->Q (tP (key d)) h')->(f [emb d] h).W Q)
  (k:∀(os:List α) h',Ext h h'->os.Perm xs->os.Pairwise (λp q=>(if b then bM (key p) (key q) else bM (key q) (key p))=false)->Q (.ref h'.length) (h'++[.lst (os.map emb)])):(kQ f b x h).W Q:=by
 unfold kQ;rw[e];dsimp only;rw[if_pos (by simpa using h1)]
 refine Mw (key:=key) xs [] h hf (Mv h1 h3 h4) λh' hx=>k _ h' hx ?_ ?_
 ·cases b with
  |false=>exact oE xs
  |true=>exact(List.reverse_perm _).trans (oE xs)
 ·have hp:=BF emb hs;cases b with
  |false=>exact hp
  |true=>
   show((kR key xs).reverse).Pairwise _
   rw[List.pairwise_reverse];exact hp
end
section
variable{δ:Ev}{h:PH}{m:Me}
@[simp]theorem V1{f:Fn}{b:Bool}:sH f b m δ h=(m δ h).bind λx h1=>kQ f b x h1:=(rfl)
theorem Fw{n:Nat}{xs:List PV}(e:h[n]?=some (.lst xs)):iA (.ref n) h=some xs:=by simp[iA,aN,e]
theorem An{n:Nat}{kvs:List (PV×PV)}(e:cJ h n=some kvs):jH h n=some (kvs.map (·.2)):=by
 unfold cJ at e;split at e
 ·rename_i q;cases e;simp[jH,q]
 ·rename_i q;cases e;simp[jH,q]
 ·cases e
theorem gL{n:Nat}{kvs:List (PV×PV)}(e:cJ h n=some kvs):∃o,h[n]?=some o/\dQ (.ref n) h=true/\∀h',h'[n]?=some o->cJ h' n=some kvs:=by
 unfold cJ at e;split at e
 ·rename_i q;cases e;exact⟨_,q,by simp[dQ,q],λh' e=>by simp[cJ,e]⟩
 ·rename_i q;cases e;exact⟨_,q,by simp[dQ,q],λh' e=>by simp[cJ,e]⟩
 ·cases e
theorem gM{h':PH}{n:Nat}{kvs:List (PV×PV)}(x:Ext h h')(e:cJ h n=some kvs):cJ h' n=some kvs:=by
 obtain⟨o,g,_,k⟩:=gL e;exact k h' (x _ _ g)
theorem Dt{n d:Nat}{kvs:List (PV×PV)}(e:h[n]?=some (.vw 1 d))(e2:cJ h d=some kvs):iA (.ref n) h=some (kvs.map (·.2)):=by
 have e1:aN h n=none:=by simp[aN,e]
 simp only[iA,e1,wN,e];exact An e2
theorem Q6{d:Nat}{kvs:List (PV×PV)}(e:cJ h d=some kvs):Dm (.ref d) [] h=.ok (.ref h.length) (h++[.vw 1 d]):=by simp[Dm,An e]
theorem Mx{n:Nat}{kvs:List (PV×PV)}{xs:List PV}{z:PV}(e:cJ h n=some kvs)(hk:(PV.tup xs).ky 6=true)(hl:kvs.length<16777216):uQ (.ref n) (.tup xs) z h=some (h.set n (.dD (dI kvs (.tup xs) z))):=by
 have k1:(PV.tup xs).isKt=true:=hk;have hl':kvs.length<aw:=by rw[pN];exact hl
 unfold uQ;simp only[nZ,k1,if_true,e];rw[if_pos hl']
theorem Js{n:Nat}{kvs:List (PV×PV)}{xs:List PV}(e:cJ h n=some kvs)(hk:(PV.tup xs).ky 6=true):cE (.tup xs) (.ref n) h=.ok (.bl (!(aU kvs (.tup xs)).isSome)) h:=by
 have k1:(PV.tup xs).isKt=true:=hk;have:iL (.tup xs) (.ref n) h=some (aU kvs (.tup xs)):=by simp only[iL,k1,if_true,e,Option.map_some]
 unfold cE;rw[this]
theorem Jt{n:Nat}{kvs:List (Key×PV)}{x:Str}{z:PV}(e:h[n]?=some (.dK kvs))(hl:kvs.length<16777216):
  mD (.ref n) [.str x,z] h=match aU kvs (.inr x) with|some p=>.ok p h|none=>.ok z (h.set n (.dK (dI kvs (.inr x) z))):=by
 have hl':kvs.length<aw:=by rw[pN];exact hl
 unfold mD;simp only[nZ,e];cases aU kvs (.inr x) with
 |some p=>rfl
 |none=>simp only[if_pos hl']
@[simp]theorem TQ{xs:List PV}:kE (.tup xs)=false:=(rfl)
@[simp]theorem TR:kE .non=true:=(rfl)
end
section
variable{δ:Ev}{h h1:PH}{js:List (Option Nat)}{tg:Mg}{elt:Me}{g:PH->Bool}
theorem Ext.setN{h hX:PH}{o:MO}{n:Nat}(x:Ext h hX)(hn:h.length<=n):Ext h (hX.set n o):=λm o' e=>by
 have:=(ab.mp e).1;rw[bg (by omega)];exact x m o' e
theorem Ao{n m:Nat}{xs ys:List PV}(e1:h[n]?=some (.lst xs))(e2:h[m]?=some (.lst ys))(c:xs.length+ys.length<=16777216):bH (.ref n) (.ref m) h=.ok (.ref h.length) (h++[.lst (xs++ys)]):=by
 show LD (.ref n) (.ref m) h=_
 simp[LD,dE,e1,e2,c]
end
end L2
namespace L2
open PySem PySem.Spec PyProof.Rows
def Wn(f:Str)(p:PV):List (Str×PV)->List (Str×PV)
 |[]=>[(f,p)]
 |(g,x)::r=>if g=f then(g,p)::r else(g,x)::Wn f p r
def Wo(x:PV)(h:PH):Option (Nat×Str×List (Str×PV)):=match x with
 |.ref n=>match h[n]? with
  |some (.ins c fs)=>some (n,c,fs)
  |_=>none
 |_=>none
def Wp(f:Str)(x y:PV)(h:PH):Option PH:=match Wo x h with
 |some (n,c,fs)=>if fs.length<1000 then some (h.set n (.ins c (Wn f y fs))) else none
 |none=>none
section
variable{C:MC}{k:Nat}{X:Cx}
section
variable{e o value:Expr}{f:Str}{m mo mv:Me}{pos pos' tpos:Pos}
def Yl(f:Str)(mo mv:Me):Ms:=λδ h=>(mv δ h).fl λy h1=>(mo δ h1).fl λx h2=>match Wp f x y h2 with
 |some h3=>.nx δ h3
 |none=>.bad
end
def Wq(cn:Str)(n:Nat)(f:Fn)(ms:Ma):Me:=λδ h=>(ms δ h).bind λps h1=>if ps.length=n then(f (.ref h1.length::ps) (h1++[.ins cn []])).bind λv h2=>(match v with
 |.non=>.ok (.ref h1.length) h2
 |_=>.bad) else .bad
end
def pV(x y v:PV)(h:PH):Option PH:=match x,y with
 |.ref n,.int i=>match dE h n with
  |some xs=>match ixN xs.length i with
   |some j=>some (h.set n (.lst (xs.set j v)))
   |none=>none
  |none=>uQ x y v h
 |_,_=>uQ x y v h
def nN(mv mo mi:Me):Ms:=λδ h=>(mv δ h).fl λv h1=>(mo δ h1).fl λx h2=>(mi δ h2).fl λy h3=>match pV x y v h3 with
 |some h4=>.nx δ h4
 |none=>.bad
def Wr:List PV->PH->Rs PV:=λxs h=>match xs with
 |[.bl b]=>.ok (.int (if b then 1 else 0)) h
 |[.int i]=>.ok (.int i) h
 |_=>.bad
section
variable{C:MC}{k:Nat}{X:Cx}
theorem Fx{φ:List Addr}{H:Hp}{h h':PH}{px py pv:PV}{x y v:V}(c:Cxt C k X)(rh:RH C φ H h)(rx:RV C φ H px x)(ry:RV C φ H py y)(rv:RV C φ H pv v)(e:pV px py pv h=some h'){pins:List (Addr×Obj)}{σ:St}{s:Shared}{xu yu vu:Value}
  {Q:Unit->Shared->Prop} (I:Inv X pins σ H s) (rxu:RelV x xu) (ryu:RelV y yu) (rvu:RelV v vu) (q:∀s' H',Inv X pins σ H' s'->Kp H H'->RH C φ H' h'->Q () s'):wpAny (model X.prog X.w) X.A (setItem xu yu vu) Q X.xe s:=by
 unfold pV at e;split at e
 ·rename_i n i;split at e
  ·rename_i xs el;split at e
   ·rename_i j ej;cases e
    obtain⟨a,rfl,ha⟩:=rx;cases ry
    obtain⟨ws,hH,rw'⟩:=rh.at' n a _ ha (iG el);refine thn (set_list pins s σ H (.ref a) (.int i) v xu yu vu (λH'=>H'=upd H a (.lst (ws.set j v))) I rxu ryu rvu ⟨a,ws,i,j,rfl,rfl,hH,by rw[<-rw'.length];exact ej,rfl⟩) ?_;rintro _ s' ⟨H',I',rfl⟩;refine q s' _ I' (Kp.lst hH) (rh.write ha (by rw[hH];trivial) ⟨_,bF,(RVs.set rv j rw').mono az (Kp.lst hH)⟩)
   ·cases e
  ·exact Ah c rh rx ry rv e I rxu ryu rvu q
 ·exact Ah c rh rx ry rv e I rxu ryu rvu q
theorem sJ{o i value:Expr}{pos pos':Pos}{mv mo mi:Me}(hv:SE C k X value mv)(ho:SE C k X o mo)(hi:SE C k X i mi)(hs:swapsWith value (some (.Subscript o i pos')) pos.line X.env=pure false:=by rfl):
  SSt C k X (.Assign [.Subscript o i pos'] value pos) (nN mv mo mi):=λc pins s σ H D I ⟨φ,δ,h,rh,re,p⟩=>by
 refine wpAny_Assign_Subscript (thn (hv c pins s σ H _ I ⟨φ,δ,h,rh,re,post.fl p⟩) ?_) hs;rintro vu s1 ⟨v,H1,I1,rvu,φ1,pv,h1,p1,t1,rh1,rv1,q1⟩;refine thn (ho c pins s1 σ H1 _ I1 ⟨φ1,δ,h1,rh1,re.mono p1 t1,post.fl q1⟩) ?_;rintro xu s2 ⟨x,H2,I2,rxu,φ2,px,h2,p2,t2,rh2,rv2,q2⟩;refine thn (hi c pins s2 σ H2 _ I2 ⟨φ2,δ,h2,rh2,(re.mono p1 t1).mono p2 t2,post.fl q2⟩) ?_;rintro yu s3 ⟨y,H3,I3,ryu,φ3,py,h3,p3,t3,rh3,rv3,q3⟩;cases e:pV px py pv h3 with
 |none=>rw[e]at q3;exact q3.elim
 |some h4=>
  rw[e]at q3;exact Fx c rh3 (rv2.mono p3 t3) rv3 ((rv1.mono p2 t2).mono p3 t3) e I3 rxu ryu rvu λs' H' I' kp rh'=>⟨σ,H',I',q3 φ3 σ H' az kp rh' ((((re.mono p1 t1).mono p2 t2).mono p3 t3).mono az kp)⟩
end
section
variable{δ:Ev}{h:PH}{m mo mv:Me}{E:FE}
@[simp]theorem Ws{cn:Str}{n:Nat}{f:Fn}{ms:Ma}:Wq cn n f ms δ h=(ms δ h).bind λps h1=>if ps.length=n then(f (.ref h1.length::ps) (h1++[.ins cn []])).bind λv h2=>(match v with|.non=>.ok (.ref h1.length) h2|_=>.bad) else .bad:=(rfl)
@[simp]theorem Y6{mi:Me}:(nN mv mo mi δ h).W E=(mv δ h).W λv h1=>(mo δ h1).W λx h2=>(mi δ h2).W λy h3=>∃h4,pV x y v h3=some h4/\E.nx δ h4:=by
 unfold nN;rw[PF]
 congr 1
 funext v h1
 rw[PF]
 congr 1
 funext x h2
 rw[PF]
 congr 1
 funext y h3
 cases e:pV x y v h3 <;> simp
theorem Ju{n:Nat}{xs:List PV}{i:Int}{v:PV}(e:h[n]?=some (.lst xs))(h0:0<=i)(h1:i<xs.length):pV (.ref n) (.int i) v h=some (h.set n (.lst (xs.set i.toNat v))):=by
 have e1:dE h n=some xs:=by simp[dE,e]
 have e2:ixN xs.length i=some i.toNat:=by unfold ixN;rw[if_pos h0,if_pos h1]
 simp[pV,e1,e2]
@[simp]theorem Wt{b:Bool}:Wr [.bl b] h=.ok (.int (if b then 1 else 0)) h:=(rfl)
end
def Ap:PV->PH->Rs PV:=λx h=>match cT x h with
 |some xs=>.ok (.ref h.length) (h++[.lst xs.reverse])
 |none=>.bad
section
variable{h:PH}
theorem Jv{n:Nat}{xs:List PV}(e:h[n]?=some (.lst xs)):Ap (.ref n) h=.ok (.ref h.length) (h++[.lst xs.reverse]):=by simp[Ap,cT,aN,e]
end
section
variable{C:MC}{k:Nat}{X:Cx}{e st:Expr}{me:Me}{pos p2:Pos}
theorem Q7(he:SE C k X e me)(hs:SE C k X st (mUn LI (mC (.int 1))))(hsub:∀a b:Addr,subscripted (.Slice none none (some st) p2) false (.ref a) (.ref b)=operate [.ref a,.ref b] (getItem (.ref a) (.ref b)):=by intro _ _;with_unfolding_all rfl):SE C k X (.Subscript e (.Slice none none (some st) p2) pos) (mUn Ap me):=λc pins s σ H Q I h=>by
 obtain⟨φ,δ,h,rh,re,po⟩:=h;refine Subscript_ (thn (he c pins s σ H (λv H1=>∃δ φ1 h1 px,RH C φ1 H1 h1/\RE C φ1 H1 δ σ/\RV C φ1 H1 px v/\post C φ1 H1 (Ap px h1) Q) I ⟨φ,δ,h,rh,re,(post.bind po).imp ?_⟩) λv s1 hh=>?_)
 ·rintro v H1 ⟨φ1,x,h1,p1,t1,rh1,rv1,q1⟩;exact⟨δ,φ1,h1,x,rh1,re.mono p1 t1,rv1,q1⟩
 obtain⟨x,H1,I1,r1,δ1,φ1,h1,px,rh1,re1,rv1,q1⟩:=hh;refine wpAny_Slice ?_;rw[evalPart_none];refine ae (ae ?_);rw[evalPart_some];refine thn (hs c pins s1 σ H1 (λv H2=>v=.int (-1)/\∃φ2,φ1<+:φ2/\Kp H1 H2/\RH C φ2 H2 h1) I1 ⟨φ1,δ1,h1,rh1,re1,?_⟩) λvk s2 hh=>?_
 ·intro φ' v H' a b c' d;exact⟨d,φ',a,b,c'⟩
 obtain⟨y,H2,I2,r2,rfl,φ2,p12,t12,rh2⟩:=hh;obtain⟨tk,rfl⟩:=r2;unfold Ap at q1;cases es:cT px h1 with
 |none=>rw[es]at q1;exact q1.elim
 |some xs=>
  rw[es]at q1;obtain⟨a,ws,rfl,sa,ra⟩:=dJ rh2 (rv1.mono p12 t12) es;cases r1
  have I4:Inv X pins σ H2 { s2 with heap:=s2.heap.push { cls:=.type "slice",data:=.fields #[.none,.none,.int (-1) tk] } }:=I2.kept (t':=s2.toks) λb ob q=>ag _ q;have sa':SqL X.K H2 a ws:=by rw[c.K];exact sa
  obtain⟨its,rw',pl,hz⟩:=I4.list sa';have hlen:=rw'.length;have hg:wpAny (model X.prog X.w) X.A (getItem (.ref a) (.ref s2.heap.objs.size)) (EP X pins σ Q) X.xe { s2 with heap:=s2.heap.push { cls:=.type "slice",data:=.fields #[.none,.none,.int (-1) tk] } }:=by
   refine wpAny_getItem_list_slice pl.isList (Heap.IsSliceOf.new ..) .none .none (.int (-1) tk) (by decide) ?_ (by rw[ar] <;> omega);rw[PySem.W.krv_pick];have hr:∀{vs:List V}{us:List Value},aO vs us->aO vs.reverse us.reverse:=by
    intro vs us r
    induction r with
    |nil=>exact .nil
    |cons a t ih=>simp only[List.reverse_cons];exact aO.append ih (.cons a .nil)
   refine⟨.ref _,_,I4.laid (t':=s2.toks) (o:=.lst ws.reverse) (λb ob q=>ag _ q) (ak _) ⟨by rw[List.length_reverse];exact hz,its.reverse,0,hr rw',?_⟩,rfl,(post.weak p12 t12 q1).lnew rh2 ra.reverse (I4.hok.fresh (ak _))⟩;have e:its.toArray.toList.reverse.toArray=its.reverse.toArray:=by simp
   rw[e];exact a7 _ rfl
  exact tail_any (ops:=[.ref a,.ref s2.heap.objs.size]) pl.isList.typeIs slot_list_getitem.lookup hg (hsub _ _)
end
def wU:List Int->Int
 |[]=>0
 |[x]=>x
 |x::y::r=>max x (wU (y::r))
def jI:List Int->Int
 |[]=>0
 |[x]=>x
 |x::y::r=>min x (jI (y::r))
theorem Du:∀{ns:List Int},ns≠[]->wU ns∈ns/\∀a∈ns,a<=wU ns
 |[],h=>(h rfl).elim
 |[x],_=>⟨by simp[wU],by simp[wU]⟩
 |x::y::r,_=>by
  obtain⟨h1,h2⟩:=Du (ns:=y::r) (by simp);unfold wU;refine⟨?_,λa ha=>?_⟩
  ·rcases Int.le_total x (wU (y::r)) with z|z
   ·rw[Int.max_eq_right z];exact aj _ h1
   ·rw[Int.max_eq_left z];exact ai
  ·rcases ba.mp ha with rfl|ha
   ·exact Int.le_max_left _ _
   ·exact kz (h2 a ha) (Int.le_max_right _ _)
theorem kT:∀{ns:List Int},ns≠[]->jI ns∈ns/\∀a∈ns,jI ns<=a
 |[],h=>(h rfl).elim
 |[x],_=>⟨by simp[jI],by simp[jI]⟩
 |x::y::r,_=>by
  obtain⟨h1,h2⟩:=kT (ns:=y::r) (by simp);unfold jI;refine⟨?_,λa ha=>?_⟩
  ·rcases Int.le_total x (jI (y::r)) with z|z
   ·rw[Int.min_eq_left z];exact ai
   ·rw[Int.min_eq_right z];exact aj _ h1
  ·rcases ba.mp ha with rfl|ha
   ·exact Int.min_le_left _ _
   ·exact kz (Int.min_le_right _ _) (h2 a ha)
def pW:List PV->PH->Rs PV:=λxs h=>match xs with
 |[.ref n]=>match aN h n with
  |some ys=>match tX ys with
   |some (a::ns)=>.ok (.int (wU (a::ns))) h
   |_=>.bad
  |none=>.bad
 |_=>Px xs h
def Aq:List PV->PH->Rs PV:=λxs h=>match xs with
 |[.ref n]=>match aN h n with
  |some ys=>match tX ys with
   |some (a::ns)=>.ok (.int (jI (a::ns))) h
   |_=>.bad
  |none=>.bad
 |_=>PB xs h
section
variable{C:MC}{k:Nat}{X:Cx}
theorem Jw(c:Cxt C k X):bO X (.builtin "max") (λxs H Q=>∃(p:Addr)(ns:List Int),xs=[.ref p]/\SqL C.K H p (ns.map V.int)/\ns≠[]/\Q (.int (wU ns)) H):=by
 intro pins s σ H xs us Q I r h;obtain⟨p,ns,rfl,hq,hne,q⟩:=h;obtain⟨u,rfl,ru⟩:=vals1 r;cases ru
 rw[<-c.K]at hq;obtain⟨its,rv,pl,hz⟩:=I.list hq;have hi:IntsAre its ns:=intsAre_of rv;obtain⟨ys,hy⟩:=hi.allInts.items;have hl:=pl.isList;have hns:ns=ys.toList.map (·.1):=by rw[<-hi.numsOf,<-nums_intItems,<-hy]
 have hsz:0<ys.size:=by
  have h3:0<ns.length:=lg.mpr hne;rw[hns,af,dk]at h3;exact h3
 rw[hy]at hl;refine max_intList (I.ok.hd c.calm) hl hsz λv h' tk hv hk=>?_;obtain⟨t,rfl⟩:=intItems_at hv;obtain⟨h1,h2⟩:=argBest_gt (numAt ys) (ys.size-1);have hM:numAt ys (argBest (λi j=>decide (numAt ys i>numAt ys j)) (ys.size-1))=wU ns:=by
  obtain⟨m1,m2⟩:=Du hne;refine Int.le_antisymm (m2 _ ?_) ?_
  ·rw[hns,numAt_eq];exact getD_mem (by rw[af,dk];omega)
  ·have ha:=m1;rw[hns]at ha;obtain⟨j,hj,ej⟩:=mem_getD ha;rw[af,dk]at hj;rw[<-hns]at ej;rw[<-ej,hns,<-numAt_eq];exact h2 j (by omega)
 rw[hM];exact⟨.int (wU ns),H,I.kept (t':=tk) hk,⟨_,rfl⟩,q⟩
theorem Jx(c:Cxt C k X):bO X (.builtin "min") (λxs H Q=>∃(p:Addr)(ns:List Int),xs=[.ref p]/\SqL C.K H p (ns.map V.int)/\ns≠[]/\Q (.int (jI ns)) H):=by
 intro pins s σ H xs us Q I r h;obtain⟨p,ns,rfl,hq,hne,q⟩:=h;obtain⟨u,rfl,ru⟩:=vals1 r;cases ru
 rw[<-c.K]at hq;obtain⟨its,rv,pl,hz⟩:=I.list hq;have hi:IntsAre its ns:=intsAre_of rv;obtain⟨ys,hy⟩:=hi.allInts.items;have hl:=pl.isList;have hns:ns=ys.toList.map (·.1):=by rw[<-hi.numsOf,<-nums_intItems,<-hy]
 have hsz:0<ys.size:=by
  have h3:0<ns.length:=lg.mpr hne;rw[hns,af,dk]at h3;exact h3
 rw[hy]at hl;refine min_intList (I.ok.hd c.calm) hl hsz λv h' tk hv hk=>?_;obtain⟨t,rfl⟩:=intItems_at hv;obtain⟨h1,h2⟩:=argBest_lt (numAt ys) (ys.size-1);have hM:numAt ys (argBest (λi j=>decide (numAt ys i<numAt ys j)) (ys.size-1))=jI ns:=by
  obtain⟨m1,m2⟩:=kT hne;refine Int.le_antisymm ?_ (m2 _ ?_)
  ·have ha:=m1;rw[hns]at ha;obtain⟨j,hj,ej⟩:=mem_getD ha;rw[af,dk]at hj;rw[<-hns]at ej;rw[<-ej,hns,<-numAt_eq];exact h2 j (by omega)
  ·rw[hns,numAt_eq];exact getD_mem (by rw[af,dk];omega)
 rw[hM];exact⟨.int (jI ns),H,I.kept (t':=tk) hk,⟨_,rfl⟩,q⟩
theorem Fy:gU C k X (.builtin "max") pW:=λc=>bO.imp (bO.or (VQ c) (Jw c)) λvs H Q h=>by
 obtain⟨φ,h,ps,rh,rv,po⟩:=h;unfold pW at po;split at po
 ·rename_i n;split at po
  ·rename_i ys e;split at po
   ·rename_i a ns en;obtain⟨v,rfl,rx⟩:=rv.one;obtain⟨p,rfl,hp⟩:=rx;obtain⟨p2,ws,hp2,sp,rp⟩:=bJ rh e;rw[hp]at hp2;cases hp2;have ew:=uW rp en;subst ew;exact .inr ⟨p,a::ns,rfl,sp,by simp,po.val rh rfl⟩
   ·exact po.elim
  ·exact po.elim
 ·exact .inl ⟨φ,h,_,rh,rv,po⟩
theorem TU:gU C k X (.builtin "min") Aq:=λc=>bO.imp (bO.or (VT c) (Jx c)) λvs H Q h=>by
 obtain⟨φ,h,ps,rh,rv,po⟩:=h;unfold Aq at po;split at po
 ·rename_i n;split at po
  ·rename_i ys e;split at po
   ·rename_i a ns en;obtain⟨v,rfl,rx⟩:=rv.one;obtain⟨p,rfl,hp⟩:=rx;obtain⟨p2,ws,hp2,sp,rp⟩:=bJ rh e;rw[hp]at hp2;cases hp2;have ew:=uW rp en;subst ew;exact .inr ⟨p,a::ns,rfl,sp,by simp,po.val rh rfl⟩
   ·exact po.elim
  ·exact po.elim
 ·exact .inl ⟨φ,h,_,rh,rv,po⟩
end
section
variable{h:PH}
theorem Jy{n:Nat}{a:Int}{ns:List Int}(e:h[n]?=some (.lst ((a::ns).map PV.int))):Aq [.ref n] h=.ok (.int (jI (a::ns))) h:=by
 have e1:aN h n=some ((a::ns).map PV.int):=by simp[aN,e]
 simp only[Aq,e1,Af]
@[simp]theorem V2{i j:Int}:pW [.int i,.int j] h=.ok (.int (if j>i then j else i)) h:=(rfl)
@[simp]theorem V3{i j:Int}:Aq [.int i,.int j] h=.ok (.int (if j<i then j else i)) h:=(rfl)
end
theorem BG:typeLookup (.type "list") "keys" = pure none:=by rw[typeLookup_type,builtinLookup_eq_fast];kernel_rfl
theorem BH{prog:Program}{w:World}{A:Around}{E:Value->Shared->Prop}{s:Shared}{a:Addr}{o:Obj}{xs:Array Value}{k:Nat}{Q:Option Value->Shared->Prop}
  (hx:s.heap.get? a=some o) (hc:o.cls=.type "list") (hdat:o.data=.seq xs k) (hd:o.dict=none) (hA:A.handled=none)
  (h:∀h' tk,(∀b u,s.heap.get? b=some u->h'.get? b=some u)->Q none { s with heap:=h',toks:=tk }):wpAny (model prog w) A (getAttr? (.ref a) "keys") Q E s:=by
 obtain⟨c,dct,dat,sl⟩:=o;simp only at hc hdat hd;subst hc hdat hd;obtain⟨hp,g,d,tk,os⟩:=s;have hT:∀tk',(⟨hp,g,d,tk',os⟩:Shared).TypeIs (.ref a) "list" := λ_=>⟨_,hx,rfl⟩;have f1:=sub_AttributeError;have f3:=F.slot_list_getattribute.lookup;have f4:=F.slot_list_getattribute.bind (.ref a);have f5:=am_list_getattr_none;unfold getAttr? getAttrBy? getAttrBy
 repeat (any_goals (first|assumption|exact hT _|((with_reducible show wpAny _ _ (call (Value.builtin "list.__getattribute__") _ _) _ _ _);refine call_meets F.slot_list_getattribute (hT _) am_entry_list_getattribute (F.args_list_getattribute_2 _ _) (meets_getattribute_miss_list a xs k sl "keys" _ BG (by decide) (by size_fits)) ⟨hx,hA,λh' tk' e hx'=>?_⟩)|wp_step))
 obtain⟨t',u',he⟩:=hx'.there
 show wpAny _ _ (getattributeRaised _ _ _ _ _ _ _) _ _ _
 unfold getattributeRaised
 repeat (any_goals (first|assumption|wp_step))
 exact h _ _ hx'.of.keeps
section
variable{prog:Program}{w:World}{K:Type}[DecidableEq K]{knd:HeapKind prog w K}{A:Around}{R:Result->Shared->Prop}
def Dv(xs:List (K×Addr×Value))(ps:List (Addr×K×Addr×Value)):List (K×Addr×Value):=ps.foldl (λacc p=>storedH acc p.2.1 p.2.2.1 p.2.2.2) xs
theorem uC(xs:List (K×Addr×Value))(k:K)(a:Addr)(v:Value):(storedH xs k a v).length<=xs.length+1:=by
 unfold storedH;split
 ·rw[af];omega
 ·simp
theorem Dw{xs:List (K×Addr×Value)}{k:K}{a:Addr}{v:Value}{x:K×Addr×Value}(h:x∈storedH xs k a v):(∃y∈xs,x.1=y.1/\x.2.1=y.2.1)\/(x.1=k/\x.2.1=a):=by
 unfold storedH at h;split at h
 ·obtain⟨y,hy,rfl⟩:=aq.mp h;refine .inl ⟨y,hy,?_,?_⟩
  ·unfold putAt;split <;> rfl
  ·unfold putAt;split <;> rfl
 ·rcases bh.mp h with h|h
  ·exact .inl ⟨x,h,rfl,rfl⟩
  ·rw[bf.mp h];exact .inr ⟨rfl,rfl⟩
theorem Dx{I d:Addr}{fp wr:List Addr}{n:Nat}{P:Nat->Value->Prop}{St:Nat->Heap->Prop}(W:Walks prog w A.in1 I fp wr n P St)(hd:d∉fp)(hu:knd.room A.in1)(ps:List (Addr×K×Addr×Value))(hn:ps.length=n)
  (hP:∀i v,P i v->∃p,ps[i]?=some p/\v=.ref p.1) (h0:Heap) (hw0:∀b u,h0.get? b=some u->b∉wr/\b≠d)
  (hk:∀h',(∀b u,h0.get? b=some u->h'.get? b=some u)->∀p∈ps,knd.is h' p.2.1 p.2.2.1/\IsTup h' p.1 #[.ref p.2.2.1,p.2.2.2]) (res:Value):
  ∀(m i:Nat)(s:Shared)(xs:List (K×Addr×Value)),n-i=m->i<=n->St i s.heap->s.heap.DictOfH knd d xs->(∀x∈xs,∃p∈ps,x.1=p.2.1/\x.2.1=p.2.2.1)->xs.length+n<=aw+i->(∀b u,h0.get? b=some u->s.heap.get? b=some u)->
  (∀h' tk,h'.DictOfH knd d (Dv xs (ps.drop i))->(∀b u,h0.get? b=some u->h'.get? b=some u)->R (.ok (.ret res)) { s with heap:=h',toks:=tk })->
  codeAny (model prog w) A (.builtin "dict.update.loop" ⟨[.ref d,.ref I,rawInt i,res],[]⟩) R s:=by
 have hdw:d∉wr:=λh=>hd (W.sub _ h);intro m
 induction m with
 |zero=>
  intro i s xs hm hi hst hdt hxs hz hit hR;have hin:i=n:=by omega
  subst hin;refine ib eT ?_;rw[fe bU _]
  show wpAny _ A.in1 (pyNext (.ref I) >>= _) _ _ s
  refine aa (W.done s _ _ hst λh' tk hk'=>?_)
  show wpAny _ A.in1 (Builtin.Dict.addKeywords d [] >>= _) _ _ _
  have h00:∀b u,h0.get? b=some u->h'.get? b=some u:=λb u e=>hk' b u (hw0 b u e).1 (hit b u e);have hfin:=hR h' tk (by
   rw[List.drop_of_length_le (by omega)];obtain⟨o,es,ep,h1,h2,h3,h4,h5,h6⟩:=hdt;refine⟨o,es,ep,hk' d _ hdw h1,h2,h3,h4,λx hx=>?_,h6⟩;obtain⟨p,hp,e1,e2⟩:=hxs x hx;rw[e1,e2];exact(hk h' h00 p hp).1) h00
  exact aa (ae (ae hfin))
 |succ m ih=>
  intro i s xs hm hi hst hdt hxs hz hit hR;have hlt:i<n:=by omega
  refine ib eT ?_;rw[fe bU _]
  show wpAny _ A.in1 (pyNext (.ref I) >>= _) _ _ s
  refine aa (W.item i s _ _ hlt hst λv h' tk hPv hst' hk'=>?_);obtain⟨p,hp,rfl⟩:=hP i v hPv;have hpm:=cq hp;have h00:∀b u,h0.get? b=some u->h'.get? b=some u:=λb u e=>hk' b u (hw0 b u e).1 (hit b u e);obtain⟨hki,ob,hb1',hb2,nn,hb3⟩:=hk h' h00 p hpm;have hTy:({ s with heap:=h',toks:=tk }:Shared).TypeIs (.ref p.1) "tuple" := ⟨ob,hb1',hb2⟩;have hdt':h'.DictOfH knd d xs:=by
   obtain⟨o,es,ep,h1,h2,h3,h4,h5,h6⟩:=hdt;refine⟨o,es,ep,hk' d _ hdw h1,h2,h3,h4,λx hx=>?_,h6⟩;obtain⟨p,hp,e1,e2⟩:=hxs x hx;rw[e1,e2];exact(hk h' h00 p hp).1
  refine aa (c6 (aa (n5 ?_)));unfold Builtin.Dict.pairItems;refine aa (ju hTy ?_);rw[if_pos (by decide)];refine aa (lx hb1' hb3 (ae ?_))
  show wpAny _ _ (holding [.ref p.2.2.1,p.2.2.2] (dictSet d (.ref p.2.2.1) p.2.2.2)) _ _ _
  refine c6 (wpAny_dictSet_heap (hsz:=by omega) hu hki hdt' λh2 hd2 hs2=>?_);refine ae ⟨jd bU _,?_⟩;have st2:St (i+1) h2:=W.frame (i+1) h' h2 hst' λb hb o e=>(hs2.2 b (λz=>hd (z▸hb))).trans e;refine ih (i+1) _ (storedH xs p.2.1 p.2.2.1 p.2.2.2) (by omega) hlt st2 hd2 (λx hx=>?_) ?_ (λb u e=>(hs2.2 b (hw0 b u e).2).trans (h00 b u e)) λh3 tk3 hd3 hk3=>?_
  ·rcases Dw hx with⟨y,hy,e1,e2⟩|⟨e1,e2⟩
   ·rw[e1,e2];exact hxs y hy
   ·exact⟨p,hpm,e1,e2⟩
  ·have:=uC xs p.2.1 p.2.2.1 p.2.2.2;omega
  ·refine hR h3 tk3 ?_ hk3;have hdr:ps.drop i=p::ps.drop (i+1):=by
    obtain⟨hl,e⟩:=ab.mp hp;rw[j6 hl,e]
   rw[hdr];exact hd3
theorem uR{E:Value->Shared->Prop}{s:Shared}{a:Addr}{o:Obj}{k:Nat}{ps:List (Addr×K×Addr×Value)}{Q:Value->Shared->Prop}(hA:A.handled=none)(hu:knd.room A.in1.in1)(hx:s.heap.get? a=some o)(hc:o.cls=.type "list")(hdat:o.data=.seq (ps.map λp=>c3 p.1).toArray k)(hd:o.dict=none)
  (hk:∀h',(∀b u,s.heap.get? b=some u->h'.get? b=some u)->∀p∈ps,knd.is h' p.2.1 p.2.2.1/\IsTup h' p.1 #[.ref p.2.2.1,p.2.2.2]) (hz:ps.length<=aw)
  (h:∀h' tk,h'.DictOfH knd s.heap.objs.size (Dv [] ps)->(∀b u,s.heap.get? b=some u->h'.get? b=some u)->Q (.ref s.heap.objs.size) { s with heap:=h',toks:=tk }):
  wpAny (model prog w) A (call (.type "dict") [.ref a]) Q E s:=by
 refine callType_codes (Q₁:=λobj s₁=>obj=.ref s.heap.objs.size/\s₁={ s with heap:=s.heap.push { cls:=.type "dict",data:=.dict #[] } }) F.kt_called_dict (F.kt_typeCall_dict_1 _) F.entry_dict_init (kt_code_dict_new _ ⟨rfl,rfl⟩) ?_;rintro obj s₁ ⟨rfl,rfl⟩;have hnew:(s.heap.push { cls:=.type "dict",data:=.dict #[] }).DictOfH knd s.heap.objs.size []:=Heap.DictOfH.new s.heap;have up:∀b u,s.heap.get? b=some u->(s.heap.push { cls:=.type "dict",data:=.dict #[] }).get? b=some u:=λb u e=>ag _ e;have hTa:({ s with heap:=s.heap.push { cls:=.type "dict",data:=.dict #[] } }:Shared).TypeIs (.ref a) "list" := ⟨o,up _ _ hx,hc⟩;refine⟨hnew.typeIs,F.args_dict_init_2 _ _,?_⟩;unfold Builtin.«dict.__init__»;refine aa ?_;unfold Builtin.Dict.selfAndRest;refine aa (j3 hnew.typeIs (show wpAny _ _ (pure (s.heap.objs.size,[c3 a])) _ _ _ from ae ?_))
 show wpAny _ _ (k8 "dict.__init__" s.heap.objs.size (.ref a) [] .none) _ _ _
 unfold k8;refine aa (ju hTa ?_);rw[if_pos (by decide)];refine aa (BH (up _ _ hx) hc hdat hd hA λh1 tk1 kp1=>?_);rw[if_pos (by rfl)];refine aa (j9 ?_);have ha1:h1.IsList a (ps.map λp=>c3 p.1).toArray:=⟨o,kp1 _ _ (up _ _ hx),hc,k,hdat⟩;refine aa (kh (s:={ s with heap:=h1,toks:=tk1 }) ha1 (ae ⟨jd bU _,?_⟩));have lt0:s.heap.objs.size<h1.objs.size:=by
  have:=kp1 s.heap.objs.size _ (a7 s.heap rfl);exact ax this
 have hlt:∀b u,s.heap.get? b=some u->b<s.heap.objs.size:=λb u e=>ax e;have ha0:=hlt _ _ hx;refine Dx (knd:=knd) (fp:=[h1.objs.size,a]) (wr:=[h1.objs.size]) (n:=(ps.map λp=>c3 p.1).toArray.size) (Walks.list (A:=A.in1.in1) hA h1.objs.size a (a9 (kr ha0 lt0)) (ps.map λp=>c3 p.1).toArray) ?_ hu ps (by simp) (λi v e=>?_) s.heap (λb u e=>?_) hk .none _ 0 _ [] (Nat.sub_zero _) (bw _) ?_ ?_ (λx hx=>nomatch hx) (by simpa using hz) (λb u e=>?_) λh' tk dd kk=>?_
 ·intro z;rcases ba.mp z with z|z
  ·exact a9 lt0 z
  ·exact a9 ha0 (bf.mp z).symm
 ·have e':(ps.map λp=>c3 p.1)[i]?=some v:=by simpa using e
  rw[au]at e';obtain⟨p,hp,rfl⟩:=bc.mp e';exact⟨p,hp,rfl⟩
 ·have h0:=hlt _ _ e;exact⟨λz=>a9 (kr h0 lt0) (bf.mp z),a9 h0⟩
 ·refine⟨⟨_,a7 _ rfl,rfl,rfl⟩,?_⟩;obtain⟨ob,e,r⟩:=ha1;exact⟨ob,ag _ e,r⟩
 ·obtain⟨oo,es,ep,e,r1,r2,r3,r4,r5⟩:=hnew;exact⟨oo,es,ep,ag _ (kp1 _ _ e),r1,r2,r3,(λx hx=>nomatch hx),r5⟩
 ·exact ag _ (kp1 _ _ (up _ _ e))
 ·exact⟨rfl,h h' tk (by simpa using dd) kk⟩
end
section
variable{C:MC}{k:Nat}{X:Cx}{φ:List Addr}{H:Hp}{pins:List (Addr×Obj)}{σ:St}{s:Shared}
def wV:List PV->Option (List (PV×PV))
 |[]=>some []
 |.tup [y,v]::r=>if y.isKt=true then(wV r).map ((y,v)::·) else none
 |_=>none
def My(kvs more:List (PV×PV)):List (PV×PV):=more.foldl (λacc kv=>dI acc kv.1 kv.2) kvs
theorem Ar{h h':Heap}(kp:∀b u,h.get? b=some u->h'.get? b=some u)(a:Addr)(x:Array Value):IsTup h a x->IsTup h' a x:=λ⟨o,e,r⟩=>⟨o,kp _ _ e,r⟩
theorem wW(I:Inv X pins σ H s)(hK:X.K=C.K):∀{ps:List PV}{rs:List (PV×PV)}{vs:List V}{us:List Value},wV ps=some rs->RVs C φ H ps vs->aO vs us->
  ∃qs:List (Addr×PV×Addr×Value),us=qs.map (λq=>c3 q.1)/\(∀h',(∀b u,s.heap.get? b=some u->h'.get? b=some u)->∀q∈qs,(kC X.prog X.w).is h' q.2.1 q.2.2.1/\IsTup h' q.1 #[.ref q.2.2.1,q.2.2.2])/\
   ∀{kvs:List (PV×PV)}{ks:List (PV×Addr×V)}{xs:List (PV×Addr×Value)},RKd C φ H kvs ks->wD ks xs->∃ks',RKd C φ H (My kvs rs) ks'/\wD ks' (Dv xs qs)
 |[],rs,[],us,e,_,ru=>by
  cases ru
  cases e
  exact⟨[],rfl,(λ_ _ _ h=>nomatch h),λr rx=>⟨_,r,rx⟩⟩
 |p::ps,rs,v::vs,us,e,r,ru=>by
  cases ru with
  | @cons _ u _ us' h t=>
   cases p with
   |tup xs=>
    match xs,e with
    |[y,z],e=>
     unfold wV at e;split at e
     ·rename_i hk;cases e2:wV ps with
      |none=>rw[e2]at e;cases e
      |some rs'=>
       rw[e2]at e;cases e
       obtain⟨qs,rfl,a1,a2⟩:=wW I hK e2 r.2 t;obtain⟨b,bs,rfl,sq,rb⟩:=r.1;cases h
       obtain⟨yv,zv,rfl,ry,rz⟩:=rb.two;rw[<-hK]at sq;obtain⟨its,rits,pt,_⟩:=I.tuple sq;obtain⟨yu,zu,rfl,ryu,rzu⟩:=vals2 rits;obtain⟨c,rfl⟩:=jG hk ry;cases ryu
       have hki:=wG I hK hk ry;refine⟨(b,y,c,zu)::qs,rfl,?_,λ{kvs ks xs} r' rx'=>?_⟩
       ·intro h' kp q hq;rcases ba.mp hq with rfl|hq
        ·exact⟨⟨hki.1,HR.keep (Ar kp) hki.2⟩,Ar kp _ _ pt⟩
        ·exact a1 h' kp q hq
       ·obtain⟨ks',r1,r2⟩:=HD.put (a:=b) r' rx' (jF hk) ry rz rzu;exact a2 r1 r2
     ·cases e
    |[],e=>cases e
    |[_],e=>cases e
    |_::_::_::_,e=>cases e
   |_=>cases e
 |[],_,_::_,_,_,r,_=>r.elim
 |_::_,_,[],_,_,r,_=>r.elim
def BI:List PV->PH->Rs PV:=λxs h=>match xs with
 |[.ref n]=>match h[n]? with
  |some (.lst ps)=>match wV ps with
   |some rs=>.ok (.ref h.length) (h++[.dD (My [] rs)])
   |none=>.bad
  |_=>wK xs h
 |_=>wK xs h
theorem As{K:Type}[DecidableEq K]:∀(ps:List (Addr×K×Addr×Value))(xs:List (K×Addr×Value)),(Dv xs ps).length<=xs.length+ps.length
 |[],xs=>ak _
 |p::ps,xs=>by
  have:=As ps (storedH xs p.2.1 p.2.2.1 p.2.2.2);have h2:=uC xs p.2.1 p.2.2.1 p.2.2.2
  show(Dv (storedH xs p.2.1 p.2.2.1 p.2.2.2) ps).length<=_
  rw[dg];omega
theorem Q8:gU C k X (.type "dict") BI:=λc pins s σ H xs us Q I r h=>by
 obtain⟨φ,h,ps,rh,rv,po⟩:=h;unfold BI at po;split at po
 ·rename_i n;split at po
  ·rename_i ls hk;split at po
   ·rename_i rs e;obtain⟨v,rfl,rx⟩:=rv.one;obtain⟨a,rfl,ha⟩:=rx;obtain⟨u,rfl,ru⟩:=vals1 r;cases ru
    obtain⟨vs,hH,rvs⟩:=rh.at' n a _ ha hk;obtain⟨hz,its,m,rits,hl,hx⟩:=I.lstM hH;obtain⟨qs,rfl,a1,a2⟩:=wW I c.K e rvs rits;have hq:qs.length<=aw:=by
     rw[af]at hl;omega
    have rm:(kC X.prog X.w).room X.A.in1.in1:=by
     have:=c.hu64
     show X.A.units+1+1+6<cLine
     omega
    refine uR (knd:=kC X.prog X.w) (I.ok.hd c.calm) rm hx rfl rfl rfl a1 hq λh' tk dd kk=>?_;obtain⟨ks',r1,r2⟩:=a2 (.nil:RKd C φ H [] []) (.nil:wD [] []);have fr:H s.heap.objs.size=none:=I.fresh;obtain⟨o,es,ep,hq1,h2,h3,h4,h5',h5⟩:=dd;have hl2:ks'.length<=aw:=by
     have e1:=fj r2;have e2:=As qs ([]:List (PV×Addr×Value));simp at e2;omega
    refine⟨.ref s.heap.objs.size,_,I.laid (a:=s.heap.objs.size) (o:=dDO C.w s.heap.objs.size ks') (t':=tk) kk (ak _) ⟨⟨hl2,beq_eq_false_iff_ne.mpr (k0 (a9 I.big)),_,r2,o,es,ep,hq1,h2,h3,?_,h5⟩,⟨o,hq1⟩,?_⟩,rfl,?_⟩
    ·rw[h4,<-c.w];rfl
    ·rintro g1 g2 ⟨z1,z2,ws,z3,o',es',ep',z4,z5⟩ keep;exact⟨z1,z2,ws,z3,o',es',ep',keep _ z4,z5⟩
    ·exact po (φ++[s.heap.objs.size]) (.ref _) _ (c8 _ _) (Kp.new fr) (rh.new fr ⟨_,bF,RKd.mono (c8 _ _) (Kp.new fr) r1⟩) ⟨_,rfl,by rw[<-rh.len];simp⟩
   ·exact po.elim
  ·exact Ml c pins s σ H xs us Q I r ⟨φ,h,_,rh,rv,po⟩
 ·exact Ml c pins s σ H xs us Q I r ⟨φ,h,_,rh,rv,po⟩
end
end L2
namespace L2
open PySem PySem.Spec PyProof.Rows PySem.SeqAt
open PySem.AutoSeq1 (wpAny_loadPart')
open PySem.MeetsSeq PySem.MeetsSeq2 PySem.MeetsSeq3
section
variable{C:MC}{k:Nat}{X:Cx}
def Wu:PV->PV->PH->Rs PV:=λx y h=>match x,y with
 |.tup xs,.tup ys=>ofB ((PR (.tup xs) (.tup ys)).map (!·)) h
 |x,y=>vGe x y h
variable{h:PH}
@[simp]theorem Wv{i j:Int}:Wu (.int i) (.int j) h=.ok (.bl (decide (j<=i))) h:=(rfl)
@[simp]theorem Ww{i j:Str}:Wu (.str i) (.str j) h=.ok (.bl (!decide (i.cps.toList<j.cps.toList))) h:=(rfl)
end
end L2
namespace L2
open PySem PySem.Spec PyProof.Rows
section
variable{C:MC}{k:Nat}{X:Cx}{ke ve:Expr}{mk mv:Me}{pos:Pos}
def putD(x y:PV)(n:Nat)(h:PH):Rs PV:=if x.isKt=true then(match cJ h n with
 |some kvs=>if kvs.length<aw then .ok (.ref n) (h.set n (.dD (dI kvs x y))) else .bad
 |none=>.bad) else .bad
def TV(mk mv:Me):Me:=λδ h=>(mk δ (h++[.dK []])).bind λx h2=>(mv δ h2).bind λy h3=>putD x y h.length h3
end
section
theorem HV{h:PH}{n:Nat}{kvs:List (Key×PV)}{x:Str}{z:PV}(e:h[n]?=some (.dK kvs))(hl:kvs.length<16777216):pV (.ref n) (.str x) z h=some (h.set n (.dK (dI kvs (.inr x) z))):=by
 show uQ (.ref n) (.str x) z h=_
 exact HN e hl
@[simp]theorem V4{mk mv:Me}{δ:Ev}{h:PH}:TV mk mv δ h=(mk δ (h++[.dK []])).bind λx h2=>(mv δ h2).bind λy h3=>putD x y h.length h3:=(rfl)
end
def Wx:HO->Prop
 |.tup _=>False
 |.own _=>False
 |.tbl _=>False
 |_=>True
def TX:MO->Option (List PV)
 |.dK kvs=>some (kvs.map λkv=>.tup [kP kv.1,kv.2])
 |.dD kvs=>some (kvs.map λkv=>.tup [kv.1,kv.2])
 |_=>none
def Wy:MO->Option (List PV)
 |.dK kvs=>some (kvs.map λkv=>kP kv.1)
 |.dD kvs=>some (kvs.map (·.1))
 |_=>none
section
variable{C:MC}{k:Nat}{X:Cx}{pins:List (Addr×Obj)}{σ:St}{H:Hp}{s:Shared}{φ:List Addr}
structure Yx(C:MC)(φ:List Addr)(H:Hp)(s:Shared)(b:Addr)(o:MO)(ks:List (V×V))(u:HO)(oc:Obj)(es:Array DictEntry)(ep:Nat):Prop where
 at':H b=some u
 nf:Wx u
 nz:∀o z,u≠.frz o z
 nt:CU (some u)
 get:s.heap.get? b=some oc
 cls:oc.cls=.type "dict"
 data:oc.data=.dict es ep
 nsys:(b == f6)=false
 fz:∀φ' H',φ<+:φ'->H' b=some (.frz oc u)->Kp H H'->RO C φ' H' b (.fz o)
 len:ks.length=es.size
 ent:∀(i:Nat)(hi:i<es.size),∃kv,ks[i]?=some kv/\RelV kv.1 es[i].key/\RelV kv.2 es[i].val
 keys:∀xs,Wy o=some xs->RVs C φ H xs (ks.map (·.1))
 items:∀xs,TX o=some xs->xs.length=ks.length/\∀(i:Nat) p,xs[i]?=some p->∃p1 p2 kv,p=.tup [p1,p2]/\ks[i]?=some kv/\RV C φ H p1 kv.1/\RV C φ H p2 kv.2
end
end L2
namespace L2
open PySem PySem.Spec PyProof.Rows PySem.SeqAt
section
variable{X:Cx}{pins:List (Addr×Obj)}{σ:St}{H:Hp}{s:Shared}
theorem wX(I:Inv X pins σ H s):∀{ds es:List D}{vs:List V},D.depths ds<=40->cD X.K H ds vs->cD X.K H es vs->ds=es
 |[],[],[],_,_,_=>rfl
 |d::ds,e::es,v::vs,h,⟨a,b⟩,⟨a',b'⟩=>by
  have hh:D.depths (d::ds)=max d.depth (D.depths ds):=by simp[D.depths]
  have h1:d.depth<=40:=by omega
  have h2:D.depths ds<=40:=by omega
  rw[lZ I 40 d e v h1 a a',wX I h2 b b']
 |[],_::_,vs,_,h,h'=>by
  cases vs with
  |nil=>exact h'.elim
  |cons _ _=>exact h.elim
 |_::_,[],vs,_,h,h'=>by
  cases vs with
  |nil=>exact h.elim
  |cons _ _=>exact h'.elim
theorem Y7(I:Inv X pins σ H s){ds es:List D}{A:Around}{x y:V}{v u:Value}(hd:D.depths ds<=40)(hu:A.units+42<cLine)(hx:CV X.K H ds x)(hy:CV X.K H es y)(rx:RelV x v)(ry:RelV y u):EqAt A s v u (dX ds es):=by
 obtain⟨a,vs,rfl,q,r⟩:=hx;obtain⟨b,vs',rfl,q',r'⟩:=hy;cases rx;cases ry;refine dY (λprog w E Q hq=>?_) (λe=>?_) (λf t z=>by cases z)
 ·obtain⟨its,rv,p,_⟩:=I.list q;obtain⟨its',rv',p',_⟩:=I.list q';have l1:=r.length;have l2:=r'.length;have l3:=rv.length;have l4:=rv'.length
  by_cases hl:ds.length=es.length
  ·refine eq_listAt p.isList p'.isList (by simp;omega) (by omega) (nX (I:=I) r r' rv rv' hd (by omega)) ?_;have e1:its.toArray.size=ds.length:=by simp;omega
   rw[e1,rO hl];exact hq
  ·refine eq_list_lengthsAt p.isList p'.isList (by simp;omega) (by omega) ?_;have e:dX ds es=false:=by
    cases h:dX ds es with
    |false=>rfl
    |true=>exact absurd (vM h) hl
   rw[e]at hq;exact hq
 ·cases e
  have ev:=I.list_inj q q';subst ev;have e2:=wX I hd r r';subst e2;have:=iE (.tup ds);simpa[eqD] using this
end
end L2
namespace L2
open PySem PySem.Spec PyProof.Rows PySem.SeqAt PySem.W
def hdk:PV->Option Nat
 |.tup (.int _::_)=>some 0
 |.tup (.str _::_)=>some 1
 |.tup (.tup _::_)=>some 2
 |_=>none
def ltV(x y:PV):Bool:=match x.d,y.d with
 |some d,some e=>ltD d e == some true
 |_,_=>false
structure OkV(b:Bool)(ks:List PV):Prop where
 dat:∀x∈ks,∃xs ds,x=.tup xs/\PV.ds xs=some ds/\D.depths ds<=40
 hd:∃t,((t == 2)=!b)/\t<=2/\∀x∈ks,hdk x=some t
 can:∀x∈ks,∀y∈ks,∃d e c,x.d=some d/\y.d=some e/\ltD d e=some c
 tr:∀x∈ks,∀y∈ks,∀z∈ks,ltV y x=false->ltV z y=false->ltV z x=false
 as:∀x∈ks,∀y∈ks,ltV x y=true->ltV y x=false
 tot:∀x∈ks,∀y∈ks,ltV x y=false->ltV y x=false->x=y
end L2
namespace L2
open PySem PySem.Spec PyProof.Rows PySem.SeqAt
structure Mk0(K:ah)(C:Addr):Prop where
 makes:PySem.W.makesIn K C=true
 init:n3 K (.ref C) "__init__" = some (some (.builtin "object.__init__"))
 kp:bp K (.ref C)=true
def TY(cn:Str):Me:=λδ h=>.ok (.ref h.length) (h++[.ins cn []])
section
@[simp]theorem V5{cn:Str}{δ:Ev}{h:PH}:TY cn δ h=.ok (.ref h.length) (h++[.ins cn []]):=(rfl)
end
end L2
namespace L2
open PySem PySem.Spec PyProof.Rows PySem.SeqAt PySem.W
open Classical in
noncomputable def Wz(b:Bool)(m:Nat)(ks ys:List PV):Option (List PV):=if ks.length<64/\ks.length=ys.length/\OkN m ks/\(∀a∈ks.zip ys,∀c∈ks.zip ys,a.1=c.1->a.2=c.2) then some ((o8 b (Se Prod.fst (ks.zip ys))).map (·.2)) else none
noncomputable def Dy(f:Fn)(b:Bool)(kb:Nat)(ys:List PV):List PV->List PV->PH->Rs PV
 |[],ks,h=>match Wz b kb ks ys with
  |some zs=>.ok (.ref h.length) (h++[.lst zs])
  |none=>.bad
 |x::xs,ks,h=>(f [x] h).bind λk h1=>Dy f b kb ys xs (ks++[k]) h1
noncomputable def HW(f:Fn)(b:Bool)(kb:Nat)(x:PV)(h:PH):Rs PV:=match iA x h with
 |some ys=>if ys.length<64 then Dy f b kb ys ys [] h else .bad
 |none=>.bad
noncomputable def Q9(f:Fn)(b:Bool)(kb:Nat)(me:Me):Me:=λδ h=>(me δ h).bind λx h1=>HW f b kb x h1
section
variable{δ:Ev}{h:PH}{m:Me}
@[simp]theorem TZ{f:Fn}{b:Bool}{n:Nat}:Q9 f b n m δ h=(m δ h).bind λx h1=>HW f b n x h1:=(rfl)
end
end L2
namespace L2
open PySem PySem.Spec PyProof.Rows PySem.SeqAt
def eqL(f:PV->PV->Option Bool):List PV->List PV->Option Bool
 |x::xs,y::ys=>match f x y,eqL f xs ys with
  |some b,some c=>some (b&&c)
  |_,_=>none
 |[],[]=>some true
 |_,_=>some false
theorem Mz{f:PV->PV->Option Bool}:∀{xs ys:List PV}{b:Bool},eqL f xs ys=some b->
  ∃g:Nat->Bool,(∀(j:Nat)(x y:PV),xs[j]?=some x->ys[j]?=some y->f x y=some (g j))/\b=((av (min xs.length ys.length)).all g&&xs.length == ys.length)
 |[],[],b,e=>⟨λ_=>true,λj x y h=>(by simp at h),by cases e;rfl⟩
 |[],y::ys,b,e=>⟨λ_=>true,λj x y h=>(by simp at h),by cases e;simp⟩
 |x::xs,[],b,e=>⟨λ_=>true,λj x y _ h=>(by simp at h),by cases e;simp⟩
 |x::xs,y::ys,b,e=>by
  unfold eqL at e;split at e
  ·rename_i b' c e1 e2;cases e
   obtain⟨g,h1,h2⟩:=Mz e2;refine⟨λj=>match j with|0=>b'|j+1=>g j,λj x y hx hy=>?_,?_⟩
   ·cases j with
    |zero=>simp at hx hy;subst hx hy;exact e1
    |succ j=>exact h1 j x y (by simpa using hx) (by simpa using hy)
   ·rw[h2];have e3:min (x::xs).length (y::ys).length=min xs.length ys.length+1:=by simp only[dg];omega
    rw[e3,List.range_succ_eq_map,jw,List.all_map,Bool.and_assoc];simp[Function.comp_def]
  ·cases e
theorem BJ{f:PV->PV->Option Bool}{R:PV->V->Prop}(hf:∀x y v b,f x y=some b->R x v->R y v->b=true):∀{xs ys:List PV}{vs:List V}{b:Bool},(∀(j:Nat)(x:PV),xs[j]?=some x->∃v,vs[j]?=some v/\R x v)->(∀(j:Nat)(x:PV),ys[j]?=some x->∃v,vs[j]?=some v/\R x v)->xs.length=ys.length->eqL f xs ys=some b->b=true
 |[],[],_,b,_,_,_,e=>by cases e;rfl
 |[],_::_,_,_,_,_,h,_=>by simp at h
 |_::_,[],_,_,_,_,h,_=>by simp at h
 |x::xs,y::ys,vs,b,h1,h2,h,e=>by
  unfold eqL at e;split at e
  ·rename_i b' c e1 e2;cases e
   obtain⟨v,hv,rx⟩:=h1 0 x rfl;obtain⟨v',hv',ry⟩:=h2 0 y rfl;rw[hv]at hv';cases hv'
   rw[hf x y v b' e1 rx ry,BJ hf (vs:=vs.tail) (λj z hz=>by simpa using h1 (j+1) z hz) (λj z hz=>by simpa using h2 (j+1) z hz) (by simpa using h) e2]
   rfl
  ·cases e
def eqF:Nat->PV->PV->PH->Option Bool
 |0,x,y,h=>jA x y h
 |n+1,x,y,h=>match jA x y h with
  |some b=>some b
  |none=>match x,y with
   |.tup xs,.tup ys=>eqL (λa b=>eqF n a b h) xs ys
   |x,y=>match cT x h,cT y h with
    |some xs,some ys=>eqL (λa b=>eqF n a b h) xs ys
    |_,_=>none
def Qa:PV->PV->PH->Rs PV:=λx y h=>ofB ((eqF 3 x y h).map not) h
section
variable{C:MC}{k:Nat}{X:Cx}{pins:List (Addr×Obj)}{σ:St}{H:Hp}{s:Shared}{φ:List Addr}{h:PH}
theorem oF:∀{xs:List PV}{vs:List V},RVs C φ H xs vs->xs.length=vs.length/\∀(j:Nat)(x:PV),xs[j]?=some x->∃v,vs[j]?=some v/\RV C φ H x v
 |[],[],_=>⟨rfl,λj x h=>by simp at h⟩
 |x::xs,v::vs,r=>by
  obtain⟨l,q⟩:=oF r.2;refine⟨by simp[l],λj y hy=>?_⟩;cases j with
  |zero=>simp at hy;subst hy;exact⟨v,rfl,r.1⟩
  |succ j=>simpa using q j y (by simpa using hy)
 |[],_::_,r=>r.elim
 |_::_,[],r=>r.elim
theorem Au(I:Inv X pins σ H s)(hK:X.K=C.K)(rh:RH C φ H h){x y:PV}{w:V}{b:Bool}(e:jA x y h=some b)(rx:RV C φ H x w)(ry:RV C φ H y w):b=true:=by
 rcases jB rh rx ry e with⟨d,e',q1,q2,q3,rfl⟩|⟨d,e',⟨a,vs,hw,sa,ra⟩,⟨a',us,hw',sa',ra'⟩,q3,rfl⟩
 ·rw[<-hK]at q1 q2;rw[lZ I 40 d e' w q3 q1 q2];exact iE _
 ·rw[<-hK]at sa sa' ra ra';subst hw;cases hw'
  have ev:=I.list_inj sa sa';subst ev;have e2:=wX I q3 ra ra';subst e2;have:=iE (.tup d);simpa[eqD] using this
theorem MA(I:Inv X pins σ H s)(hK:X.K=C.K)(rh:RH C φ H h):∀(n:Nat)(x y:PV)(w:V)(b:Bool),eqF n x y h=some b->RV C φ H x w->RV C φ H y w->b=true:=by
 intro n
 induction n with
 |zero=>intro x y w b e rx ry;exact Au I hK rh e rx ry
 |succ n ih=>
  intro x y w b e rx ry;unfold eqF at e;split at e
  ·rename_i b' e2;cases e
   exact Au I hK rh e2 rx ry
  ·split at e
   ·rename_i xs ys _;obtain⟨a,vs,rfl,q,r⟩:=rx;obtain⟨a',us,hw,q',r'⟩:=ry;cases hw
    rw[<-hK]at q q';have ev:=I.tuple_inj q q';subst ev;obtain⟨l1,a1⟩:=oF r;obtain⟨l2,a2⟩:=oF r';exact BJ (R:=RV C φ H) (λx y v b=>ih x y v b) a1 a2 (by omega) e
   ·split at e
    ·rename_i xs ys h1 h2;obtain⟨a,vs,rfl,sa,ra⟩:=dJ rh rx h1;obtain⟨a',us,hw,sb,rb⟩:=dJ rh ry h2;cases hw
     rw[<-hK]at sa sb;have ev:=I.list_inj sa sb;subst ev;obtain⟨l1,a1⟩:=oF ra;obtain⟨l2,a2⟩:=oF rb;exact BJ (R:=RV C φ H) (λx y v b=>ih x y v b) a1 a2 (by omega) e
    ·cases e
theorem Dz{n:Nat}(hn:∀(A:Around)(x y:PV)(v u:V)(i j:Value)(b:Bool),A.units+42+n<cLine->eqF n x y h=some b->RV C φ H x v->RV C φ H y u->RelV v i->RelV u j->EqAt A s i j b)
  {A:Around} {xs ys:List PV} {b:Bool} {vs us:List V} {is js:List Value} (hu:A.units+42+n<cLine) (e:eqL (λa b=>eqF n a b h) xs ys=some b) (r:RVs C φ H xs vs) (r':RVs C φ H ys us) (rv:aO vs is) (rw':aO us js):
  ∃g:Nat->Bool,is.toArray.size=xs.length/\js.toArray.size=ys.length/\(∀(j:Nat)(h1:j<is.toArray.size)(h2:j<js.toArray.size),EqAt A s is.toArray[j] js.toArray[j] (g j))/\b=((av (min is.toArray.size js.toArray.size)).all g&&is.toArray.size == js.toArray.size):=by
 obtain⟨g,hg,hb⟩:=Mz e;obtain⟨l1,a1⟩:=oF r;obtain⟨l2,a2⟩:=oF r';have l3:=rv.length;have l4:=rw'.length;have z1:is.toArray.size=xs.length:=by simp;omega
 have z2:js.toArray.size=ys.length:=by simp;omega
 refine⟨g,z1,z2,λj h1 h2=>?_,by rw[z1,z2];exact hb⟩;have k1:j<xs.length:=by omega
 have k2:j<ys.length:=by omega
 obtain⟨v,hv,q1⟩:=a1 j xs[j] (gx k1);obtain⟨u,hu',q2⟩:=a2 j ys[j] (gx k2);obtain⟨i,hi,q3⟩:=rv.get hv;obtain⟨i',hi',q4⟩:=rw'.get hu';have e1:is.toArray[j]=i:=by
  have:=(ab.mp hi).2;simpa using this
 have e2:js.toArray[j]=i':=by
  have:=(ab.mp hi').2;simpa using this
 rw[e1,e2];exact hn A _ _ v u i i' (g j) hu (hg j _ _ (gx k1) (gx k2)) q1 q2 q3 q4
theorem MB(I:Inv X pins σ H s)(hK:X.K=C.K)(rh:RH C φ H h)(n:Nat)(hn:∀(A:Around)(x y:PV)(v u:V)(i j:Value)(b:Bool),A.units+42+n<cLine->eqF n x y h=some b->RV C φ H x v->RV C φ H y u->RelV v i->RelV u j->EqAt A s i j b)
  (A:Around) (x y:PV) (v u:V) (i j:Value) (b:Bool) (hu:A.units+43+n<cLine) (e2:jA x y h=none) (e:eqF (n+1) x y h=some b) (rx:RV C φ H x v) (ry:RV C φ H y u) (r1:RelV v i) (r2:RelV u j):
  RcAt A s i j b/\RcNeAt A s i j (!b)/\∃a a',i=.ref a/\j=.ref a'/\v=.ref a/\u=.ref a':=by
 unfold eqF at e;rw[e2]at e;simp only at e;split at e
 ·rename_i xs ys;obtain⟨a,vs,rfl,q,r⟩:=rx;obtain⟨a',us,rfl,q',r'⟩:=ry;cases r1;cases r2;rw[<-hK]at q q';obtain⟨its,rv,p,_⟩:=I.tuple q;obtain⟨its',rv',p',_⟩:=I.tuple q';obtain⟨g,z1,z2,el,hb⟩:=Dz hn (A:=A.in1) (by show A.units+1+42+n<cLine;omega) e r r' rv rv';rw[hb];exact⟨RcAt.tuples p p' (by omega) el,RcNeAt.tuples p p' (by omega) el,a,a',rfl,rfl,rfl,rfl⟩
 ·split at e
  ·rename_i xs ys h1 h2;obtain⟨a,vs,rfl,sa,ra⟩:=dJ rh rx h1;obtain⟨a',us,rfl,sb,rb⟩:=dJ rh ry h2;cases r1;cases r2;rw[<-hK]at sa sb;obtain⟨its,rv,p,_⟩:=I.list sa;obtain⟨its',rv',p',_⟩:=I.list sb;obtain⟨g,z1,z2,el,hb⟩:=Dz hn (A:=A.in1) (by show A.units+1+42+n<cLine;omega) e ra rb rv rv';refine⟨?_,?_,a,a',rfl,rfl,rfl,rfl⟩
   all_goals by_cases hl:its.toArray.size=its'.toArray.size
   all_goals first
    |rw[hb,<-hl,Nat.min_self,beq_self_eq_true,Bool.and_true]
    |rw[hb,beq_eq_false_iff_ne.mpr hl,Bool.and_false]
   ·intro prog w E Q hq;exact eq_listAt p.isList p'.isList hl (by omega) el hq
   ·intro prog w E Q hq;exact eq_list_lengthsAt p.isList p'.isList (by simpa using hl) (by omega) hq
   ·exact RcNeAt.lists p.isList p'.isList hl (by omega) el
   ·exact RcNeAt.lists_lengths p.isList p'.isList (by simpa using hl) (by omega)
  ·cases e
theorem U0(I:Inv X pins σ H s)(hK:X.K=C.K)(rh:RH C φ H h):∀(n:Nat)(A:Around)(x y:PV)(v u:V)(i j:Value)(b:Bool),A.units+42+n<cLine->eqF n x y h=some b->RV C φ H x v->RV C φ H y u->RelV v i->RelV u j->EqAt A s i j b:=by
 have base:∀(A:Around)(x y:PV)(v u:V)(i j:Value)(b:Bool),A.units+42<cLine->jA x y h=some b->RV C φ H x v->RV C φ H y u->RelV v i->RelV u j->EqAt A s i j b:=by
  intro A x y v u i j b hu e rx ry r1 r3;rcases jB rh rx ry e with⟨d,e',q1,q2,q3,rfl⟩|⟨d,e',q1,q2,q3,rfl⟩
  ·exact Lo I (n:=40) q3 (by omega) (by rw[hK];exact q1) (by rw[hK];exact q2) r1 r3
  ·exact Y7 I q3 hu (by rw[hK];exact q1) (by rw[hK];exact q2) r1 r3
 intro n
 induction n with
 |zero=>intro A x y v u i j b hu e;exact base A x y v u i j b (by omega) e
 |succ n ih=>
  intro A x y v u i j b hu e rx ry r1 r2;cases e2:jA x y h with
  |some b'=>
   unfold eqF at e;rw[e2]at e;cases e
   exact base A x y v u i j b (by omega) e2 rx ry r1 r2
  |none=>
   obtain⟨h1,_,a,a',rfl,rfl,rfl,rfl⟩:=MB I hK rh n ih A x y v u i j b (by omega) e2 e rx ry r1 r2;refine dY h1 (λz=>?_) (λf t z=>by cases z);cases z
   exact MA I hK rh (n+1) x y _ b e rx ry
theorem MD{x y:PV}{b:Bool}(e:eqF 3 x y h=some b):jA x y h=some b\/jA x y h=none:=by
 unfold eqF at e;split at e
 ·rename_i b' e2;cases e
  exact .inl e2
 ·exact .inr (by assumption)
theorem U1:OpS C k X (c9 .NotEq) Qa:=λc=>by
 intro pins s σ H x y v u Q I rx ry hq;obtain⟨φ,h,p,q,rh,rp,rq,po⟩:=hq;obtain⟨b0,e0,po⟩:=po.ofB;obtain⟨b,e,rfl⟩:=bc.mp e0;have hu:=c.hu64;rcases MD e with e2|e2
 ·refine Pu c pins s σ H x y v u Q I rx ry ⟨φ,h,p,q,rh,rp,rq,?_⟩;unfold vNe;rw[e2];exact po
 ·exact(MB I c.K rh 2 (U0 I c.K rh 2) X.A p q x y v u b (by omega) e2 e rp rq rx ry).2.1 X.prog X.w X.xe _ ⟨.bl _,H,I,rfl,po.val rh rfl⟩
end
end L2
namespace L2
open PySem PySem.Spec PyProof.Rows PySem.SeqAt
open PySem.AutoSeq1 (wpAny_loadPart')
open PySem.MeetsSeq PySem.MeetsSeq2 PySem.MeetsSeq3
section
variable{C:MC}{k:Nat}{X:Cx}
def Y8:PV->PV->PH->Rs PV:=λx y h=>match x,y with
 |.tup xs,.tup ys=>ofB (if(PV.tup xs).d.all (λd=>decide (d.depth<=40)) then(PR (.tup ys) (.tup xs)).map (!·) else none) h
 |x,y=>vLe x y h
variable{h:PH}
@[simp]theorem WA{i j:Int}:Y8 (.int i) (.int j) h=.ok (.bl (decide (i<=j))) h:=(rfl)
end
end L2
namespace L2
open PySem PySem.Spec PyProof.Rows PySem.SeqAt PySem.W
def DA(o:Option (PV×Int))(y:PV)(i:Int):Option (PV×Int):=match o with
 |some b=>if b.2<i then some (y,i) else some b
 |none=>some (y,i)
noncomputable def dR(f:Fn)(n:Nat)(xs:List PV):List PV->Option (PV×Int)->PH->Rs PV
 |[],o,h=>if nE n xs h=true then(match o with|some b=>.ok b.1 h|none=>.ok .non h) else .bad
 | y :: ys,o,h=>if nE n xs h=true then (f [y] h).bind fun k h1=>match k with
   |.int i=>dR f n xs ys (DA o y i) h1
   |_=>.bad
  else .bad
noncomputable def Av(f:Fn)(x:PV)(h:PH):Rs PV:=match x with
 |.ref n=>match aN h n with
  |some xs=>dR f n xs xs none h
  |none=>.bad
 |_=>.bad
noncomputable def HX(f:Fn)(me:Me):Me:=λδ h=>(me δ h).bind λx h1=>Av f x h1
theorem Fz(a v:Value):argsOk "max" ⟨[a],[("key",v),("default",.none)]⟩:=by rfl
theorem BK(v:Value):Builtin.Builtins.bindParams "max" ["key","default"] 0 ⟨[],[("key",v),("default",.none)]⟩=pure [some v,some .none]:=by rfl
section
variable{prog:Program}{w:World}{A:Around}{E:Value->Shared->Prop}{s:Shared}
theorem ME{id:String}{b:Builtin}{args:Args}{Q:Value->Shared->Prop}(hk:builtinKind id=none)(hp:plainId id=true)(he:entryFor table id=some b)(ha:argsOk id args)
  (h:wpAny (model prog w) A.in1 (b args) (λfin s'=>match fin with|.done f=>wants Q E (.ok f) s'|.again c'=>c'.quiet=true/\codeAny (model prog w) A c' (wants Q E) s') E s):wpAny (model prog w) A (call (.builtin id) args.pos args.kw) Q E s:=by
 have e:checkBuiltinCall id args=pure ():=by
  unfold checkBuiltinCall;rw[hk];unfold argsOk at ha;generalize Manifest.signature? id=sg at ha⊢;cases sg <;> cases splitId id <;> first|rfl|exact ha
 refine wpAny_call (codeAny_call_builtin hp he (k9 e ?_));exact h
theorem Jz{l:Addr}{items:Array Value}{v:Value}{Q:Value->Shared->Prop}(hl:s.heap.IsList l items)
  (h:codeAny (model prog w) A (.builtin "max.loop" ⟨[.ref s.heap.objs.size,v,.ref (s.heap.objs.size+1)],[("default",.none)]⟩) (wants Q E)
   { s with heap:=(s.heap.push { cls:=.type "list_iterator",data:=.fields #[.ref l,.int 0 0] }).push (seqObj "list" #[] 0) }):
  wpAny (model prog w) A (call (.builtin "max") [.ref l] [("key",v),("default",.none)]) Q E s:=by
 refine ME (args:=⟨[.ref l],[("key",v),("default",.none)]⟩) F.kind_max F.plain_max F.entry_max (Fz _ _) ?_
 show wpAny _ _ (Builtin.Builtins.bindParams "max" ["key","default"] 0 ⟨[],[("key",v),("default",.none)]⟩ >>= _) _ _ s
 refine aa (k9 (BK v) ?_);refine(show wpAny _ _ (pure (c3 l) >>= _) _ _ s from aa (ae ?_))
 refine aa (kh hl ?_);refine aa (wpAny_newList ?_ (by rw[cx];simp));refine ae ⟨jd ll _,?_⟩;have e:(s.heap.push { cls:=.type "list_iterator",data:=.fields #[.ref l,.int 0 0] }).objs.size=s.heap.objs.size+1:=by rw[lu]
 simp only[e] at*;exact h
end
section
variable{C:MC}{k:Nat}{X:Cx}{x:Str}{st:Stmt}{q:Addr}{fd:c5}{pn:List Str}{j:Nat}{f:Fn}
def MF(C:MC)(φ:List Addr)(H:Hp)(o:Option (PV×Int))(best:List Value):Prop:=match o with
 |none=>best=[]
 |some b=>∃v u t,best=[u,.int b.2 t]/\RelV v u/\RV C φ H b.1 v
def WB(X:Cx)(pins:List (Addr×Obj))(a:Addr):Prop:=X.s₀.heap.objs.size<=a/\a≠X.env.locals/\(∀x c,X.env.cells.lookup x=some c->c≠a)/\(∀p∈X.pn++pins,p.1≠a)/\a∉X.fs
theorem HY{n:Nat}{xs:List PV}{h:PH}(e:nE n xs h=true):aN h n=some xs:=by
 unfold nE at e;cases q:aN h n with
 |none=>rw[q]at e;cases e
 |some ys=>rw[q]at e;rw[PV.beqs_eq e]
theorem JA(c:Cxt C k X)(D:Def C.K X.mg x st q fd pn)(G:aV X.prog X.w C.K X.mg X.base CX0 j q fd pn (spM C 1 f))(hj:j+1<=k){pins:List (Addr×Obj)}{σ:St}{Q:VK}{n:Nat}{xs:List PV}{l it S:Addr}(hne:it≠S)(fI:WB X pins it)(fS:WB X pins S):
  ∀(m i:Nat)(s:Shared)(H:Hp)(φ:List Addr)(h:PH)(o:Option (PV×Int))(best:List Value)(cc:Nat),xs.length-i=m->i<=xs.length->Inv X pins σ H s->H S=none->H it=none->s.heap.get? S=some (seqObj "list" best.toArray cc)->s.heap.IsListIter it l i->RH C φ H h->φ[n]?=some l->MF C φ H o best->
   post C φ H (dR f n xs (xs.drop i) o h) Q->codeAny (model X.prog X.w) X.A (.builtin "max.loop" ⟨[.ref it,.ref q,.ref S],[("default",.none)]⟩) (wants (EP X pins σ Q) X.xe) s:=by
 intro m
 induction m with
 |zero=>
  intro i s H φ h o best cc hm hi I hS hI gS sti rh hn bo po;have e:i=xs.length:=by omega
  subst e;rw[oe]at po;unfold dR at po;obtain⟨hg,po⟩:=po.ite;obtain⟨a,vs,ha,sq,rv⟩:=bJ rh (HY hg);rw[hn]at ha;cases ha
  rw[<-c.K]at sq;obtain⟨its,rvs,pl,hz⟩:=I.list sq;have l1:=rv.length;have l2:=rvs.length;refine ib F.entry_max_loop ?_;rw[fe ll];refine(show wpAny _ _ (seqItems? (.ref S) >>= _) _ _ s from aa (lx gS rfl ?_))
  refine(show wpAny _ _ (tryCatch (pyNext (.ref it)) _ >>= _) _ _ s from aa (n5 (wpAny_pyNext_list_end (I.ok.hd c.calm) sti pl.isList (by simp;omega) λh' eb=>?_)))
  have I1:Inv X pins σ H { s with heap:=h' }:=I.turned (t':=s.toks) (λb o hb e=>eb b o hb e) hI fI.2.1 (.inr fI.1) fI.2.2.1 fI.2.2.2.1;cases o with
  |none=>
   cases bo
   refine(show wpAny _ _ (rule _ >>= _) _ _ _ from aa (j9 (ae ?_)))
   exact⟨.non,H,I1,rfl,po.val rh rfl⟩
  |some b=>
   obtain⟨v,u,t,rfl,ru,rv⟩:=bo;have gS':=eb S _ (k0 hne) gS;refine(show wpAny _ _ (updateSeq S (λ_=>#[]) >>= _) _ _ _ from aa (wpAny_updateSeq gS' rfl ?_ (by rw[cx];simp) (by rw[cx];simp)))
   refine(show wpAny _ _ (letGo [_] [u] >>= _) _ _ _ from aa (wpAny_letGo (ae ?_)))
   refine⟨v,H,I1.turned (t':=s.toks) (it:=S) (λb o hb e=>?_) hS fS.2.1 (.inr fS.1) fS.2.2.1 fS.2.2.2.1,ru,po.val rh rv⟩;rw[k7 _ _ _ _ hb];exact e
 |succ m ih=>
  intro i s H φ h o best cc hm hi I hS hI gS sti rh hn bo po;have hlt:i<xs.length:=by omega
  have gy:xs[i]?=some xs[i]:=by simp[hlt]
  rw[drop_cons gy]at po;unfold dR at po;obtain⟨hg,po⟩:=po.ite;obtain⟨a,vs,ha,sq,rv⟩:=bJ rh (HY hg);rw[hn]at ha;cases ha
  rw[<-c.K]at sq;obtain⟨its,rvs,pl,hz⟩:=I.list sq;obtain⟨v,hv,rvv⟩:=rv.at gy;obtain⟨u,hu,ru⟩:=rvs.get hv;refine ib F.entry_max_loop ?_;rw[fe ll];refine(show wpAny _ _ (seqItems? (.ref S) >>= _) _ _ s from aa (lx gS rfl ?_))
  refine(show wpAny _ _ (tryCatch (pyNext (.ref it)) _ >>= _) _ _ s from aa (n5 (wpAny_pyNext_list_item sti pl.isList (x:=u) (by simpa using hu) λh' st' sb=>?_)))
  have I1:Inv X pins σ H { s with heap:=h' }:=I.turned (t':=s.toks) (λb o hb e=>(sb.2 b hb).trans e) hI fI.2.1 (.inr fI.1) fI.2.2.1 fI.2.2.2.1;have gS':h'.get? S=some (seqObj "list" best.toArray cc):=(sb.2 S (k0 hne)).trans gS;obtain⟨oi,ei,ci,di⟩:=id st';have I2:Inv X (pins++[(S,seqObj "list" best.toArray cc),(it,oi)]) σ H { s with heap:=h' }:=I1.pins_of λp hp=>by
   rcases bh.mp hp with hp|hp
   ·exact I1.pin p (ao _ hp)
   ·rcases ba.mp hp with rfl|hp
    ·exact⟨gS',hS,fS.2.1,fS.2.2.2.2,hV⟩
    ·rw[bf.mp hp];exact⟨ei,hI,fI.2.1,fI.2.2.2.2,λv z=>by rw[di]at z;cases z⟩
  have e1':=c.K;have G':aV X.prog X.w X.K X.mg X.base CX0 j q fd pn (spM C 1 f):=by rw[e1'];exact G
  have D':Def X.K X.mg x st q fd pn:=by rw[e1'];exact D
  have sp1:spM C 1 f [v] H (λv H2=>∃φ2 p h2,φ<+:φ2/\Kp H H2/\RH C φ2 H2 h2/\RV C φ2 H2 p v/\post C φ2 H2 (match p with
   |.int i'=>dR f n xs (xs.drop (i+1)) (DA o xs[i] i') h2
   |_=>.bad) Q) E0:=
   ⟨φ,h,[xs[i]],rh,⟨rvv,trivial⟩,rfl,post.bind po⟩
  have hl:([u]:List Value).length=pn.length:=G'.len _ _ _ _ sp1;refine(show wpAny _ _ (tryCatch (holding [u] (call (.ref q) [u])) _ >>= _) _ _ _ from aa (n5 (c6 ?_)))
  refine wpAny_call (codeAny_mono (G'.run X.A.in1 X.stack _ H ⟨[u],[]⟩ [u] [v] _ E0 ((c.room.mono hj).in1) I2.env0.in1 (by
   have:=D'.bd { s with heap:=h' } [u] I2.kIn (by simpa using hl)
   simpa using this) (.cons ru .nil) sp1) λr s2 hq=>?_)
  cases r with
  |error e=>exact hq.elim
  |ok fl=>
   cases fl with
   |next=>exact iy hq
   |brk=>exact iy hq
   |cont=>exact iy hq
   |ret val=>
    obtain⟨x2,H2,I3,rx2,φ2,p2,h2,pp2,tt2,rh2,rp2,po2⟩:=I2.after hq;have gk:=I3.pin (S,seqObj "list" best.toArray cc) (ao _ (ao _ ai));have gi:=I3.pin (it,oi) (ao _ (ao _ (aj _ ai)));have I4:Inv X pins σ H2 s2:=I3.unpinned;have st2:s2.heap.IsListIter it l (i+1):=st'.at λo e=>by
     have:o=oi:=bq (e.symm.trans ei);rw[this];exact gi.1
    have hn2:=gR pp2 hn;cases p2 with
    |int i'=>
     cases rp2
     obtain⟨t,rfl⟩:=rx2;have again:∀(o':Option (PV×Int))(best':List Value)(cc':Nat)(g:Heap)(t':Nat),(∀b o,b≠S->s2.heap.get? b=some o->g.get? b=some o)->g.get? S=some (seqObj "list" best'.toArray cc')->MF C φ2 H2 o' best'->post C φ2 H2 (dR f n xs (xs.drop (i+1)) o' h2) Q->
       codeAny (model X.prog X.w) X.A (.builtin "max.loop" ⟨[.ref it,.ref q,.ref S],[("default",.none)]⟩) (wants (EP X pins σ Q) X.xe) { s2 with heap:=g,toks:=t' }:=λo' best' cc' g t' kp hb bo' po'=>by
      refine ih (i+1) _ H2 φ2 h2 o' best' cc' (by omega) hlt (I4.turned (t':=t') (it:=S) kp gk.2.1 fS.2.1 (.inr fS.1) fS.2.2.1 fS.2.2.2.1) gk.2.1 gi.2.1 hb (st2.at λo e=>kp it o hne e) rh2 hn2 bo' po'
     have po2:post C φ2 H2 (dR f n xs (xs.drop (i+1)) (DA o xs[i] i') h2) Q:=po2;cases o with
     |none=>
      cases bo
      refine(show wpAny _ _ (updateSeq S (λ_=>#[u,.int i' t]) >>= _) _ _ _ from aa (wpAny_updateSeq gk.1 rfl ?_ (by rw[cx];simp) (by rw[cx];simp)))
      obtain⟨c2,hc2⟩:∃c2,(s2.heap.update S (cz λ_=>#[u,.int i' t])).get? S=some (seqObj "list" #[u,.int i' t] c2):=⟨_,jm gk.1 λ_=>#[u,.int i' t]⟩;exact ae ⟨jd ll _,again (some (xs[i],i')) [u,.int i' t] c2 _ s2.toks (λb o hb e=>by rw[k7 _ _ _ _ hb];exact e) hc2 ⟨v,u,t,rfl,ru,rvv.mono pp2 tt2⟩ po2⟩
     |some b=>
      obtain⟨v0,u0,t0,rfl,ru0,rv0⟩:=bo;refine(show wpAny _ _ (tryCatch (holding [u,.int i' t] (richCompare .Gt (.int i' t) (.int b.2 t0) >>= _)) _ >>= _) _ _ _ from aa (n5 (c6 (aa (PyProof.Rows.gt_int (a:=i') (b:=b.2) ?_)))))
      refine aa (c6 (iz (aa (wpAny_letGo (ae ?_)))));have eb:DA (some b) xs[i] i'=if b.2<i' then some (xs[i],i') else some b:=rfl
      by_cases hb:b.2<i'
      ·rw[eb,if_pos hb]at po2;rw[if_pos (by simpa using hb)]
       refine aa (wpAny_updateSeq gk.1 rfl ?_ (by rw[cx];simp) (by rw[cx];simp));obtain⟨c2,hc2⟩:∃c2,(s2.heap.update S (cz λ_=>#[u,.int i' t])).get? S=some (seqObj "list" #[u,.int i' t] c2):=⟨_,jm gk.1 λ_=>#[u,.int i' t]⟩;exact aa (wpAny_letGo (ae ⟨jd ll _,again (some (xs[i],i')) [u,.int i' t] c2 _ s2.toks (λb o hb e=>by rw[k7 _ _ _ _ hb];exact e) hc2 ⟨v,u,t,rfl,ru,rvv.mono pp2 tt2⟩ po2⟩))
      ·rw[eb,if_neg hb]at po2;rw[if_neg (by simpa using hb)]
       exact aa (wpAny_letGo (ae ⟨jd ll _,again (some b) [u0,.int b.2 t0] cc _ s2.toks (λ_ _ _ e=>e) gk.1 ⟨v0,u0,t0,rfl,ru0,rv0.mono pp2 tt2⟩ po2⟩))
    |_=>exact po2.elim
theorem JB(c:Cxt C k X)(D:Def C.K X.mg x st q fd pn)(G:aV X.prog X.w C.K X.mg X.base CX0 j q fd pn (spM C 1 f))(hj:j+1<=k){pins:List (Addr×Obj)}{s:Shared}{σ:St}{H:Hp}{Q:VK}{v:V}{u:Value}(I:Inv X pins σ H s)(ru:RelV v u)(h:r1 C (Av f) v H Q):
  wpAny (model X.prog X.w) X.A (call (.builtin "max") [u] [("key",.ref q),("default",.none)]) (EP X pins σ Q) X.xe s:=by
 obtain⟨φ,h,p,rh,rp,po⟩:=h;unfold Av at po;cases p with
 |ref n=>
  simp only at po;cases el:aN h n with
  |none=>rw[el]at po;exact po.elim
  |some xs=>
   rw[el]at po;obtain⟨a,rfl,ha⟩:=rp;cases ru
   obtain⟨a2,vs,ha2,sq,rv⟩:=bJ rh el;rw[ha]at ha2;cases ha2
   have sq':=sq;rw[<-c.K]at sq';obtain⟨its,rvs,pl,hz⟩:=I.list sq';refine Jz pl.isList ?_;have kp:∀b o,s.heap.get? b=some o->((s.heap.push { cls:=.type "list_iterator",data:=.fields #[.ref a,.int 0 0] }).push (seqObj "list" #[] 0)).get? b=some o:=λb o e=>ag _ (ag _ e);have fI:=wQ I (ak s.heap.objs.size);have fS:=wQ I (Nat.le_succ s.heap.objs.size);refine JA (xs:=xs) (n:=n) (l:=a) c D G hj (a9 (Nat.lt_succ_self _)) fI fS xs.length 0 _ H φ h none [] 0 (by omega) (bw _) (I.kept (t':=s.toks) kp) (I.hok.fresh (Nat.le_succ _)) (I.hok.fresh (ak _)) ?_ ?_ rh ha rfl (by rw[List.drop_zero];exact po)
   ·have e:(s.heap.push { cls:=.type "list_iterator",data:=.fields #[.ref a,.int 0 0] }).objs.size=s.heap.objs.size+1:=by rw[lu]
    show((s.heap.push _).push (seqObj "list" #[] 0)).get? (s.heap.objs.size+1)=_
    rw[<-e];exact a7 _ rfl
   ·exact⟨_,ag _ (a7 _ rfl),rfl,rfl⟩
 |_=>exact po.elim
end
section
variable{C:MC}{k:Nat}{X:Cx}{kf:Str}{st:Stmt}{q:Addr}{fd:c5}{pn:List Str}{j jn:Nat}{f:Fn}{e:Expr}{me:Me}{p pos kp kpos rp rpos:Pos}
theorem MG{Q:VK}{σ:St}{H:Hp}(h:rd C (HX f me) σ H Q):Lc (rd C me) SV σ H λvs H1=>∃x,vs=[x]/\r1 C (Av f) x H1 Q:=by
 obtain⟨φ,δ,h,rh,re,po⟩:=h;refine⟨φ,δ,h,rh,re,(post.bind po).imp ?_⟩;rintro v H1 ⟨φ1,x,h1,p1,t1,rh1,rv1,q1⟩;exact⟨v,rfl,φ1,h1,x,rh1,rv1,q1⟩
theorem U2(D:Def C.K X.mg kf st q fd pn)(G:aV X.prog X.w C.K X.mg X.base CX0 j q fd pn (spM C 1 f))(he:SE C k X e me)(hb:("max" : Str)∈C.bs)(hj:j+1<=k:=by decide)(hg:Gl X "max" := by rfl)(hgk:Gl X kf:=by rfl)(hdk:(kf == ("__debug__" : Str))=false:=by decide)
  (hst:bu [e] X.env=(false,eval e X.env)::bu [] X.env:=by rfl) (hbk:backTo pos (bu [e] X.env)=(false,eval e X.env)::backTo pos (bu [] X.env):=by rfl) (hpl:(backTo pos (bu [e] X.env)).any (·.1)=false:=by rfl):
  SE C k X (.Call (.Name "max" p) [e] [⟨some "key",.Name kf kp,kpos⟩,⟨some "default",.Constant .none jn rp,rpos⟩] pos) (HX f me):=λc pins s σ H Q I h=>by
 refine jr (rD I hg (c.bn _ hb) PyProof.Rows.Boot.«max» ?_ (by decide) (by decide));refine callWith_kw (thn (lY (he c) rE hst pos pins s σ H _ I (MG h)) λus s1 hh=>?_) hbk hpl;obtain⟨vs,H1,I1,rv,x,rfl,r⟩:=hh;obtain⟨u,rfl,ru⟩:=vals1 rv;refine kws_cons (uS I1 hgk D.mg (kws_cons (Constant_none (kws_nil ?_))) hdk)
 show wpAny _ _ (call (.builtin "max") [u] [(jt "key",.ref q),(jt "default",.none)]) _ _ _
 exact JB c D G hj I1 ru r
end
def sL:PV->List PV->PH->Rs PV:=λx ps h=>match x,ps with
 |.ref n,[.str z]=>match aN h n with
  |some ys=>match Ak ys with
   |some ss=>if ss.idxOf z<ss.length then .ok (.int (ss.idxOf z:Nat)) h else .bad
   |none=>.bad
  |none=>.bad
 |_,_=>.bad
section
variable{C:MC}{k:Nat}{X:Cx}
theorem Qb:MtS C k X "list" isL "list.index" sL:=λc=>⟨λpins s σ H x xs v us Q I rx rv h=>by
 obtain⟨φ,h,p,ps,rh,rp,rs,po⟩:=h;unfold sL at po;split at po
 ·rename_i n z;split at po
  ·rename_i ys e;split at po
   ·rename_i ss es;obtain⟨hlt,po⟩:=po.ite;obtain⟨a,rfl,ha⟩:=rp;cases rx
    obtain⟨v2,rfl,rz⟩:=rs.one;cases rz
    obtain⟨u,rfl,ru⟩:=vals1 rv;obtain⟨t,rfl⟩:=ru;obtain⟨a2,vs,ha2,sq,rvs⟩:=bJ rh e;rw[ha]at ha2;cases ha2;rw[<-c.K]at sq;obtain⟨its,ri,pl,hz⟩:=I.list sq;have ey:=Do es;subst ey;have hi:∀(m:Nat)(x:Str),ss[m]?=some x->∃t,its[m]?=some (.str x t):=λm x hm=>by
     obtain⟨w,hw,rw'⟩:=rvs.at (i:=m) (x:=.str x) (by rw[au,hm];rfl);cases rw'
     obtain⟨y,hy,ry⟩:=ri.get hw;obtain⟨t',rfl⟩:=ry;exact⟨t',hy⟩
    have hl:its.length=ss.length:=by
     have h1:=rvs.length;have h2:=ri.length;rw[af]at h1;omega
    obtain⟨ob,n',ge0,hcl,hdi,hda⟩:=pl;have ge:s.heap.get? a=some { cls:=.type "list",dict:=none,data:=.seq its.toArray n',slots:=ob.slots }:=by
     rw[ge0];cases ob
     simp only at hcl hdi hda;rw[hcl,hdi,hda]
    let e:Value->Bool:=λy=>match y with|.str a _=>a == z|_=>false
    have hget:∀(m:Nat)(hm:m<its.toArray.size),∃t,its.toArray[m]=.str (ss[m]'(by simpa[hl] using hm)) t:=λm hm=>by
     have hm':m<ss.length:=by simpa[hl] using hm
     obtain⟨t',ht⟩:=hi m ss[m] (by simp[hm']);refine⟨t',?_⟩;have:=(ab.mp ht).2;simpa using this
    refine call_meets F.slot_list_index ⟨_,ge,rfl⟩ F.entry_list_index (F.args_list_index_2 _ _) (list_indexAt a its.toArray n' none ob.slots (.str z t) e (ss.idxOf z) (by simpa[hl] using hlt) ?_ ?_ ?_) ⟨ge,?_,?_⟩
    ·have:=hz;have h1:=ri.length;rw[cx]at this;omega
    ·obtain⟨t',ht⟩:=hget (ss.idxOf z) (by simpa[hl] using hlt)
     rw[ht]
     show(ss[ss.idxOf z] == z)=true
     simp
    ·intro m hm hlt2;obtain⟨t',ht⟩:=hget m hm;rw[ht]
     show(ss[m] == z)=false
     have:=List.not_of_lt_findIdx (p:=λx=>x == z) (xs:=ss) (i:=m) hlt2;simpa using this
    ·intro y hy;obtain⟨m,hm,rfl⟩:=Array.getElem_of_mem hy;obtain⟨t',ht⟩:=hget m hm;rw[ht];exact EqAt.str_str _ _ _ _
    ·exact⟨.int (ss.idxOf z:Nat),H,I.kept (t':=s.toks+1) λ_ _ e=>e,⟨_,rfl⟩,po.val rh rfl⟩
   ·exact po.elim
  ·exact po.elim
 ·exact po.elim,λφ H h p x rh rv e=>LV rh rv e⟩
theorem JC{h:PH}{n:Nat}{ss:List Str}{z:Str}(e:h[n]?=some (.lst (ss.map PV.str)))(hz:z∈ss):sL (.ref n) [.str z] h=.ok (.int (ss.idxOf z:Nat)) h:=by
 have e1:aN h n=some (ss.map PV.str):=by simp[aN,e]
 simp only[sL,e1,Dn];rw[if_pos (ki.mpr hz)]
end
end L2
namespace L2
open PySem PySem.Spec PyProof.Rows
abbrev xo(a:Addr)(p:Obj->Prop):HO:=.ext λh=>∃o,h.get? a=some o/\p o
theorem WC{P:Program}{w:World}{H:Hp}{h:Heap}{a:Addr}{p:Obj->Prop}(e:∃o,h.get? a=some o/\p o):cK P w H h a (xo a p):=
 ⟨e,let ⟨o,q,_⟩:=e;⟨o,q⟩,λ_ _ ⟨o,q,r⟩ k=>⟨o,k o q,r⟩⟩
section
variable{X:Cx}{pins:List (Addr×Obj)}{σ:St}{H:Hp}{s:Shared}{a:Addr}{p q:Obj->Prop}{o:Obj}{f:Obj->Obj}
theorem Inv.xo(I:Inv X pins σ H s)(h:H a=some (xo a p)):∃o,s.heap.get? a=some o/\p o:=(I.hok _ _ h).1
end
def lpN(m:Nat):Nat->Nat×Nat->Nat×Nat
 |0,x=>x
 |n+1,x=>lpN m n (nj m x.1 x.2)
theorem pX(m:Nat):∀(a b:Nat)(x:Nat×Nat),lpN m (a+b) x=lpN m b (lpN m a x)
 |0,b,x=>by rw[Nat.zero_add];rfl
 |a+1,b,x=>by
  rw[show a+1+b=(a+b)+1 by omega];exact pX m a b _
theorem wY(m:Nat):∀(n:Nat)(x:Nat×Nat),(lpN m n x).2=x.2/32 ^ n
 |0,x=>by simp[lpN]
 |n+1,x=>by
  show(lpN m n (nj m x.1 x.2)).2=_
  rw[wY m n]
  show x.2/32/32 ^ n=_
  rw[Nat.div_div_eq_div_mul,Nat.pow_succ,Nat.mul_comm]
theorem MH{m:Nat}:∀(n:Nat)(x:Nat×Nat),x.1<=m->(lpN m n x).1<=m
 |0,x,h=>h
 |n+1,x,h=>MH n _ (by
  have:=Nat.mod_lt (x.1*5+1+x.2/32) (show 0<m+1 by omega)
  show(x.1*5+1+x.2/32)%(m+1)<=m
  omega)
def orb(m:Nat):Nat->Nat->List Nat
 |0,_=>[]
 |n+1,i=>i::orb m n ((i*5+1)%(m+1))
theorem MI{m:Nat}:∀(n i j:Nat),j∈orb m n i->∃k,k<n/\(lpN m k (i,0)).1=j
 |0,_,_,h=>by cases h
 |n+1,i,j,h=>by
  rcases ba.mp h with h|h
  ·exact⟨0,by omega,h.symm⟩
  ·obtain⟨k,hk,e⟩:=MI n _ j h;refine⟨k+1,by omega,?_⟩
   show(lpN m k (nj m i 0)).1=j
   unfold nj;rw[show(i*5+1+0/32)%(m+1)=(i*5+1)%(m+1) by simp,show 0/32=0 by rfl];exact e
def full(m:Nat):Bool:=let o:=orb m (m+1) 0;(av (m+1)).all (λj=>o.contains j)&&(lpN m (m+1) (0,0) == (0,0))
theorem Qc{m a j:Nat}(h:full m=true)(ha:a<=m)(hj:j<=m):∃k,k<m+1/\(lpN m k (a,0)).1=j:=by
 obtain⟨h1,h2⟩:=Bool.and_eq_true_iff.mp h;have h2:=beq_iff_eq.mp h2;have z:∀n,(lpN m n (0,0)).2=0:=λn=>by rw[wY];simp
 have at':∀j,j<=m->∃k,k<m+1/\lpN m k (0,0)=(j,0):=λj hj=>by
  have f3:=bz.mp h1 j (e8.mpr (by omega));obtain⟨k,hk,e⟩:=MI (m+1) 0 j (by simpa using f3)
  exact⟨k,hk,Prod.ext e (z k)⟩
 obtain⟨x,hx,ex⟩:=at' a ha;obtain⟨y,hy,ey⟩:=at' j hj
 by_cases q:x<=y
 ·refine⟨y-x,by omega,?_⟩;have:=pX m x (y-x) (0,0);rw[show x+(y-x)=y by omega,ey,ex]at this;rw[<-this]
 ·refine⟨y+(m+1)-x,by omega,?_⟩;have:=pX m x (y+(m+1)-x) (0,0);rw[show x+(y+(m+1)-x)=(m+1)+y by omega,pX,h2,ey,ex]at this;rw[<-this]
def jJ(m:Nat):Prop:=m=7\/m=31\/m=127
theorem U3:full 7=true:=by decide +kernel
theorem Qd:full 31=true:=by decide +kernel
theorem MJ:full 127=true:=by decide +kernel
theorem jJ.full{m:Nat}(h:jJ m):L2.full m=true:=by
 rcases h with rfl|rfl|rfl
 ·exact U3
 ·exact Qd
 ·exact MJ
theorem reach{m i p j:Nat}(h:jJ m)(hi:i<=m)(hp:p<2 ^ 64)(hj:j<=m):∃L,L<=m+13/\(lpN m L (i,p)).1=j:=by
 have f:=h.full;have h1:(lpN m 13 (i,p)).2=0:=by
  rw[wY];exact Nat.div_eq_of_lt (bj hp (by decide))
 have h2:=MH (m:=m) 13 (i,p) hi;generalize hx:lpN m 13 (i,p)=x at h1 h2;obtain⟨a,b⟩:=x;dsimp only at h1 h2;subst h1;obtain⟨k,hk,e⟩:=Qc f h2 hj;refine⟨13+k,by omega,?_⟩;rw[pX,hx];exact e
structure kU(t:je)(n:Nat):Prop where
 lim:t.mask=7/\n<=4\/t.mask=31/\n<=18\/t.mask=127/\n<=76
 dum:t.dummies=#[]
 sz:t.place.size=n
theorem kU.mask{t:je}{n:Nat}(h:kU t n):jJ t.mask:=by
 rcases h.lim with⟨e,_⟩|⟨e,_⟩|⟨e,_⟩
 ·exact .inl e
 ·exact .inr (.inl e)
 ·exact .inr (.inr e)
theorem kU.lt{t:je}{n:Nat}(h:kU t n):n<t.mask:=by rcases h.lim with⟨e,_⟩|⟨e,_⟩|⟨e,_⟩ <;> omega
theorem kU.fits{t:je}{n:Nat}(h:kU t n):t.fits n=true:=by
 have:=h.lt;simp[SetTable.fits,SetTable.fill,h.sz,h.dum];omega
theorem kU.live{t:je}{n:Nat}(h:kU t n){j i:Nat}(e:t.slot j=.live i):i<n:=by
 unfold SetTable.slot at e;dsimp only at e;split at e
 ·rename_i q;cases e
  have:=(nu.mp (beq_iff_eq.mp q)).1;rw[h.sz]at this;exact this
 ·split at e <;> cases e
theorem DB{t:je}(hd:t.dummies=#[]){j:Nat}(h:j∉t.place.toList):t.slot j=.empty:=by
 unfold SetTable.slot;dsimp only;rw[if_neg ?_,if_neg ?_]
 ·rw[hd];simp[SetTable.has]
 ·intro z;have:=beq_iff_eq.mp z;exact h (by
   have h2:=Array.mem_of_getElem? this;simpa using h2)
theorem U4:∀(n:Nat)(l:List Nat),l.length<n->∃j,j<n/\j∉l:=by
 intro n l h
 by_cases q:∃j,j<n/\j∉l
 ·exact q
 ·exfalso;have hs:av n ⊆ l:=λj hj=>by
   by_cases z:j∈l
   ·exact z
   ·exact absurd ⟨j,e8.mp hj,z⟩ q
  have:=(List.nodup_range (n:=n)).length_le_of_subset hs;simp at this;omega
theorem kU.room{t:je}{n:Nat}(h:kU t n):∃j,j<=t.mask/\t.slot j=.empty:=by
 obtain⟨j,h1,h2⟩:=U4 (t.mask+1) t.place.toList (by have:=h.lt;have:=h.sz;simp;omega);exact⟨j,by omega,DB h.dum h2⟩
structure Go(t:je)(p:o9)(L:Nat):Prop where
 more:p.more<=9
 dum:p.dummy=none
 emp:t.slot (lpN t.mask L (p.i,p.perturb)).1=.empty
 zero:L=0->p.j=p.i
theorem wZ(m i:Nat):ot m i-i<=9:=by
 unfold ot;split <;> omega
theorem Go.start{t:je}{n:Nat}(h:kU t n)(k:Int):∃L,L<=t.mask+13/\Go t (t.probeStart k) L:=by
 obtain⟨j,h1,h2⟩:=h.room;have hb:dz k<2 ^ 64:=by
  unfold dz;have:=ie k (show(0:Int)<2 ^ 64 by decide);have:=ic k (show(2 ^ 64:Int)≠0 by decide);omega
 have hi:dz k%(t.mask+1)<=t.mask:=by
  have:=Nat.mod_lt (dz k) (show 0<t.mask+1 by omega);omega
 obtain⟨L,h3,h4⟩:=reach h.mask hi hb h1;exact⟨L,h3,wZ _ _,rfl,by show t.slot (lpN t.mask L (dz k%(t.mask+1),dz k)).1=_;rw[h4];exact h2,λ_=>rfl⟩
theorem Go.adv{t:je}{p:o9}{L:Nat}(g:Go t p L)(hne:t.slot p.j≠.empty):∃L',Go t (t.advance p) L'/\(t.advance p).more+10*L'<p.more+10*L:=by
 have hL:L≠0:=λz=>hne (by
  have e:=g.emp;rw[z]at e;rw[g.zero z];exact e)
 unfold SetTable.advance
 by_cases hm:p.more>0
 ·rw[if_pos hm];exact⟨L,⟨by have:=g.more;show p.more-1<=9;omega,g.dum,g.emp,λz=>absurd z hL⟩,by show p.more-1+10*L<_;omega⟩
 ·rw[if_neg hm];obtain⟨L,rfl⟩:∃k,L=k+1:=⟨L-1,by omega⟩;exact⟨L,⟨wZ _ _,g.dum,g.emp,λ_=>rfl⟩,by
   have:=wZ t.mask (nj t.mask p.i p.perturb).1
   show ot t.mask (nj t.mask p.i p.perturb).1-(nj t.mask p.i p.perturb).1+10*L<_
   omega⟩
theorem Sf{t:je}(hd:t.dummies=#[])(f:Nat->Int)(h:Int):∀(fuel:Nat)(p:o9)(L:Nat),Go t p L->p.more+10*L<fuel->
  (∃j,SetTable.probe.go t f h fuel p=some (.empty j none)/\t.slot j=.empty)\/∃j i q L',SetTable.probe.go t f h fuel p=some (.candidate j i q)/\t.slot j=.live i/\f i=h/\Go t q L'/\q.more+10*L'<p.more+10*L
 |0,p,L,g,hf=>by omega
 |fuel+1,p,L,g,hf=>by
  unfold SetTable.probe.go;cases e:t.slot p.j with
  |empty=>exact .inl ⟨p.j,by rw[g.dum],e⟩
  |dummy=>exact absurd e (Bn hd _)
  |live i=>
   obtain⟨L',g',hm⟩:=g.adv (by rw[e];exact λz=>nomatch z);dsimp only
   by_cases hc:(f i == h)=true
   ·rw[if_pos hc];exact .inr ⟨p.j,i,_,L',rfl,e,beq_iff_eq.mp hc,g',hm⟩
   ·rw[if_neg hc];rcases Sf hd f h fuel _ L' g' (by omega) with⟨j,h1,h2⟩|⟨j,i',q,L2,h1,h2,h3,h4,h5⟩
    ·exact .inl ⟨j,h1,h2⟩
    ·exact .inr ⟨j,i',q,L2,h1,h2,h3,h4,by omega⟩
theorem MK{t:je}{n:Nat}(ht:kU t n)(f:Nat->Int)(h:Int){p:o9}{L:Nat}(g:Go t p L)(hf:p.more+10*L<10*(t.mask+15)):
  (∃j,t.probe f h p=some (.empty j none)/\t.slot j=.empty)\/∃j i q L',t.probe f h p=some (.candidate j i q)/\t.slot j=.live i/\f i=h/\Go t q L'/\q.more+10*L'<p.more+10*L:=
 Sf ht.dum f h _ p L g hf
theorem getD_none{α:Type}{o:Array (Option α)}{j:Nat}{x:α}(h:(o.getD j (some x)).isNone=true):o[j]?=some none:=by
 by_cases q:j<o.size
 ·have e:o.getD j (some x)=o[j]:=by simp[Array.getD,q]
  rw[e]at h;rw[j7 q,Option.isNone_iff_eq_none.mp h]
 ·have e:o.getD j (some x)=some x:=by simp[Array.getD,q]
  rw[e]at h;cases h
theorem HZ{m:Nat}{owner:Array (Option Nat)}{j0:Nat}(h0:owner[j0]?=some none):∀(fuel i p L:Nat),(lpN m L (i,p)).1=j0->L<fuel->∃j,iw m owner fuel i p=some j/\owner[j]?=some none
 |0,_,_,_,_,h=>by omega
 |fuel+1,i,p,L,e,h=>by
  unfold iw;cases q:(av (ot m i+1-i)).find? λk=>(owner.getD (i+k) (some 0)).isNone with
  |some k=>exact⟨i+k,rfl,getD_none (x:=0) (by have:=List.find?_some q;exact this)⟩
  |none=>
   cases L with
   |zero=>
    have e:i=j0:=e;subst e;have z:=List.find?_eq_none.mp q 0 (e8.mpr (by unfold ot;split <;> omega));have h1:=(nu.mp h0);exact absurd (by
     obtain⟨h2,h3⟩:=h1;have e:owner.getD (i+0) (some 0)=owner[i]:=by simp[Array.getD,h2]
     rw[e,h3];rfl) z
   |succ L=>
    dsimp only;exact HZ h0 fuel _ _ L e (by omega)
theorem DC{α:Type}{v:α}:∀{l:List (Option α)}{j:Nat},l[j]?=some none->((l.set j (some v)).filterMap id).Perm (v::l.filterMap id)
 |[],_,h=>by simp at h
 |x::l,0,h=>by
  have:x=none:=by simpa using h
  subst this;simp
 |x::l,j+1,h=>by
  have ih:=DC (v:=v) (l:=l) (j:=j) (by simpa using h)
  cases x with
  |none=>simpa using ih
  |some y=>
   simp only[my,dj,id];exact(ih.cons y).trans (List.Perm.swap v y _)
theorem I0{α:Type}:∀{l:List (Option α)},(l.filterMap id).length<l.length->∃j:Nat,l[j]?=some none
 |[],h=>by simp at h
 |none::l,_=>⟨0,rfl⟩
 |some x::l,h=>by
  obtain⟨j,hj⟩:=I0 (l:=l) (by simpa using h)
  exact⟨j+1,by simpa using hj⟩
structure Own(m:Nat)(o:Array (Option Nat))(k:Nat):Prop where
 sz:o.size=m+1
 pm:(o.toList.filterMap id).Perm (av k)
theorem Own.step{m:Nat}(hm:jJ m){o:Array (Option Nat)}{k:Nat}(h:Own m o k)(hk:k<=m)(x:Int):∃j,iw m o (n8 m) (dz x%(m+1)) (dz x)=some j/\Own m (o.setIfInBounds j (some k)) (k+1):=by
 obtain⟨j0,h0⟩:=I0 (l:=o.toList) (by have:=h.pm.length_eq;rw[this];simp[h.sz];omega);have h0':o[j0]?=some none:=by simpa using h0
 have hj:j0<=m:=by have:=(nu.mp h0').1;rw[h.sz]at this;omega
 have hb:dz x<2 ^ 64:=by
  unfold dz;have:=ie x (show(0:Int)<2 ^ 64 by decide);have:=ic x (show(2 ^ 64:Int)≠0 by decide);omega
 have hi:dz x%(m+1)<=m:=by
  have:=Nat.mod_lt (dz x) (show 0<m+1 by omega);omega
 obtain⟨L,h3,h4⟩:=reach hm hi hb hj;obtain⟨j,h5,h6⟩:=HZ (m:=m) h0' (n8 m) _ _ L h4 (by unfold n8;omega);refine⟨j,h5,⟨by simp[h.sz],?_⟩⟩;have e:(o.setIfInBounds j (some k)).toList=o.toList.set j (some k):=by simp
 rw[e];refine(DC (by simpa using h6)).trans ?_
 rw[List.range_succ];exact(h.pm.cons k).trans (List.perm_append_singleton _ _).symm
theorem DD{m:Nat}(hm:jJ m):∀(hs:List Int)(o:Array (Option Nat))(k:Nat),Own m o k->k+hs.length<=m+1->
  ∃o',hs.foldl (λacc h=>do
   let (owner,k) <-acc
   let j <-iw m owner (n8 m) (dz h%(m+1)) (dz h)
   pure (owner.setIfInBounds j (some k),k+1)) (some (o,k))=some (o',k+hs.length)/\Own m o' (k+hs.length)
 |[],o,k,h,_=>⟨o,rfl,h⟩
 |x::hs,o,k,h,hl=>by
  obtain⟨j,h1,h2⟩:=h.step hm (by simp at hl;omega) x
  obtain⟨o',h3,h4⟩:=DD hm hs _ _ h2 (by simp at hl⊢;omega)
  refine⟨o',?_,?_⟩
  ·rw[ou]
   have e:(do
    let (owner,k) <-some (o,k)
    let j <-iw m owner (n8 m) (dz x%(m+1)) (dz x)
    pure (owner.setIfInBounds j (some k),k+1))=some (o.setIfInBounds j (some k),k+1):=by
    show(iw m o (n8 m) (dz x%(m+1)) (dz x) >>= λj=>pure (o.setIfInBounds j (some k),k+1))=_
    rw[h1];rfl
   rw[e,h3]
   simp
   omega
  ·have:k+(x::hs).length=k+1+hs.length:=by simp;omega
   rw[this];exact h4
theorem U5{m:Nat}(hm:jJ m)(hs:Array Int)(hl:hs.size<=m):∃o,SetTable.layClean m hs=some o/\Own m o hs.size:=by
 have h0:Own m (Array.replicate (m+1) none) 0:=⟨by simp,by simp⟩;obtain⟨o,h1,h2⟩:=DD hm hs.toList _ 0 h0 (by simp;omega);refine⟨o,?_,by simpa using h2⟩
 unfold SetTable.layClean;rw[<-Array.foldl_toList];have e:=congrArg (Option.map (·.1)) h1;exact e
theorem ML{o:Array (Option Nat)}:(((av o.size).filterMap λj=>(o.getD j none).map (j,·)).map (·.2))=o.toList.filterMap id:=by
 have e:o.toList=(av o.size).map λj=>o.getD j none:=by
  apply List.ext_getElem
  ·simp
  ·intro i h1 h2;simp at h1;simp[Array.getD,h1]
 rw[e,List.filterMap_map,List.map_filterMap]
 congr 1
 funext j
 show Option.map (λx=>x.2) (Option.map (λx=>(j,x)) (o.getD j none))=o.getD j none
 cases o.getD j none <;> rfl
theorem JD{t:je}{hs:Array Int}{m' wanted:Nat}(hm:jJ m')(hw:SetTable.sizeAbove wanted=m'+1)(hl:hs.size<=m')(lim:m'=7/\hs.size<=4\/m'=31/\hs.size<=18\/m'=127/\hs.size<=76):
  ∃t' order,t.relaid hs wanted=some (t',order)/\kU t' hs.size/\order.toList.Perm (av hs.size):=by
 obtain⟨o,h1,h2⟩:=U5 hm hs hl;have hlen:(((av (m'+1)).filterMap λj=>(o.getD j none).map (j,·)).map (·.2)).Perm (av hs.size):=by
  rw[<-h2.sz,ML];exact h2.pm
 refine⟨{ mask:=m',place:=(((av (m'+1)).filterMap λj=>(o.getD j none).map (j,·)).map (·.1)).toArray,dummies:=#[],finger:=t.finger,led:=t.led,moves:=t.movedTo m',plain:=t.plain },(((av (m'+1)).filterMap λj=>(o.getD j none).map (j,·)).map (·.2)).toArray,?_,⟨lim,rfl,?_⟩,?_⟩
 ·unfold SetTable.relaid SetTable.laid;rw[hw,Nat.add_sub_cancel,h1];rfl
 ·have:=hlen.length_eq;simpa using this
 ·simpa using hlen
theorem MM{α:Type}(es:Array α){order:Array Nat}(h:order.toList.Perm (av es.size)):(order.filterMap (es[·]?)).toList.Perm es.toList:=by
 have e:(av es.size).filterMap (es[·]?)=es.toList:=by
  have:∀n,n<=es.size->(av n).filterMap (es[·]?)=es.toList.take n:=by
   intro n
   induction n with
   |zero=>intro _;simp
   |succ n ih=>
    intro hn;rw[List.range_succ,List.filterMap_append,ih (by omega),fq]
    congr 1
    rw[show es.toList[n]?=es[n]? by simp];cases q:es[n]? with
    |none=>simp[q]
    |some v=>simp[q]
  rw[this _ (ak _)];exact l0 (by simp)
 have:=h.filterMap (es[·]?);rw[e]at this;simpa using this
section
variable{prog:Program}{w:World}{A:Around}{E:Value->Shared->Prop}{s:Shared}{a:Addr}
theorem sub_tuple_tuple:isSubtype (.type "tuple") (.type "tuple")=pure true:=isSubtype_tuple_tuple
theorem Aw:∀(n m:Nat){A:Around}{E:Value->Shared->Prop}{s:Shared}{p:PV}{v:Value}{Q:Bool->Shared->Prop},p.ky n=true->n<=m->HR s.heap p v->Q false s->wpAny (model prog w) A (kj m v) Q E s:=by
 intro n
 induction n with
 |zero=>
  intro m A E s p v Q hk hm r h;cases p with
  |int i=>obtain⟨t,rfl⟩:=r;unfold kj;exact ae h
  |str i=>obtain⟨t,rfl⟩:=r;unfold kj;exact ae h
  |_=>cases hk
 |succ n ih=>
  intro m A E s p v Q hk hm r h;cases p with
  |int i=>obtain⟨t,rfl⟩:=r;unfold kj;exact ae h
  |str i=>obtain⟨t,rfl⟩:=r;unfold kj;exact ae h
  |tup ps=>
   obtain⟨a,its,rfl,⟨o,ho,hc,m',hd⟩,rs⟩:=r;have hk':∀q∈ps,q.ky n=true:=bz.mp hk;have hT:s.TypeIs (.ref a) "tuple" := ⟨o,ho,hc⟩;obtain⟨m,rfl⟩:∃j,m=j+1:=⟨m-1,by omega⟩;unfold kj;refine aa (ju hT ?_);dsimp only;rw[if_pos (by decide)];refine aa (ae ?_);simp only[oq,cm,if_false];refine aa (lx ho hd ?_);dsimp only;refine aa ?_;rw[<-mj];refine lj _ (λrest r s'=>r.1=none/\s'=s/\∃left,HRs s.heap left rest/\∀q∈left,q.ky n=true) _ ?_ ?_ _ _ ⟨rfl,rfl,ps,rs,hk'⟩
   ·rintro v rest r s' ⟨hr,rfl,left,rl,kl⟩;cases left with
    |nil=>exact rl.elim
    |cons q left=>
     refine aa (ih m (kl q ai) (by omega) rl.1 ?_);simp only[cm,if_false];exact ae ⟨rfl,rfl,left,rl.2,λz hz=>kl z (aj _ hz)⟩
   ·rintro⟨r1,r2⟩ s' ⟨hr,rfl,_⟩;simp only at hr;subst hr;exact ae h
  |_=>cases hk
theorem JE:∀(n m:Nat){A:Around}{E:Value->Shared->Prop}{s:Shared}{p:PV}{v:Value}{Q:Bool->Shared->Prop},p.ky n=true->n<=m->HR s.heap p v->(∀b,Q b s)->wpAny (model prog w) A (hashByValue m v) Q E s:=by
 intro n
 induction n with
 |zero=>
  intro m A E s p v Q hk hm r h;cases p with
  |int i=>obtain⟨t,rfl⟩:=r;unfold hashByValue;exact ae (h _)
  |str i=>obtain⟨t,rfl⟩:=r;unfold hashByValue;exact ae (h _)
  |_=>cases hk
 |succ n ih=>
  intro m A E s p v Q hk hm r h;cases p with
  |int i=>obtain⟨t,rfl⟩:=r;unfold hashByValue;exact ae (h _)
  |str i=>obtain⟨t,rfl⟩:=r;unfold hashByValue;exact ae (h _)
  |tup ps=>
   obtain⟨a,its,rfl,⟨o,ho,hc,m',hd⟩,rs⟩:=r;have hk':∀q∈ps,q.ky n=true:=bz.mp hk;have hT:s.TypeIs (.ref a) "tuple" := ⟨o,ho,hc⟩;obtain⟨m,rfl⟩:∃j,m=j+1:=⟨m-1,by omega⟩;unfold hashByValue;refine aa (m5 hT nh.lookup ?_);refine(show wpAny _ _ (seqItems? (.ref a) >>= _) _ _ s from aa (lx ho hd ?_))
   refine aa (show wpAny _ _ (forIn its.toArray _ _) _ _ s from ?_)
   rw[<-mj];refine lj _ (λrest r s'=>s'=s/\r.1=none/\∃left,HRs s.heap left rest/\∀q∈left,q.ky n=true) _ ?_ ?_ _ _ ⟨rfl,rfl,ps,rs,hk'⟩
   ·rintro v rest r s' ⟨rfl,hr,left,rl,kl⟩;cases left with
    |nil=>exact rl.elim
    |cons q left=>
     refine aa (ih m (kl q ai) (by omega) rl.1 λb=>?_);cases b with
     |true=>
      simp only[oq,cm,if_false];exact ae ⟨rfl,rfl,left,rl.2,λz hz=>kl z (aj _ hz)⟩
     |false=>
      simp only[Bool.not_false,if_true];exact ae (ae (h _))
   ·rintro⟨r1,r2⟩ s' ⟨rfl,hr,_⟩;simp only at hr;subst hr;exact ae (h _)
  |_=>cases hk
end
section
variable{prog:Program}{w:World}{A:Around}{E:Value->Shared->Prop}{s:Shared}{a:Addr}
theorem BL{M:Model}{α:Type}{c:Prop}[Decidable c]{a b:Sem α}{Q:α->Shared->Prop}(h1:c->wpAny M A a Q E s)(h2:¬ c->wpAny M A b Q E s):wpAny M A (if c then a else b) Q E s:=by
 by_cases h:c
 ·rw[if_pos h];exact h1 h
 ·rw[if_neg h];exact h2 h
def Keyed(h:Heap)(v:Value):Prop:=∃p:PV,p.ky 6=true/\HR h p v
theorem Qe{x:Value}{ys:List Value}{Q:Bool->Shared->Prop}(hx:Keyed s.heap x)(hy:∀y∈ys,Keyed s.heap y)(h:Q false s):wpAny (model prog w) A (searchCouldBeSeen x ys) Q E s:=by
 obtain⟨q,kq,rq⟩:=hx;unfold searchCouldBeSeen;refine aa (lj _ (λrest r s'=>s'=s/\r.1=none/\∀y∈rest,Keyed s.heap y) _ ?_ ?_ _ _ ⟨rfl,rfl,hy⟩)
 ·rintro y rest ⟨r1,r2⟩ s' ⟨rfl,hr,hk⟩;obtain⟨p,kp,rp⟩:=hk y ai;have rest':∀y∈rest,Keyed s'.heap y:=λy hy=>hk y (aj _ hy);dsimp only;refine BL (λ_=>?_) λ_=>?_
  ·exact ae ⟨rfl,rfl,rest'⟩
  ·refine aa (rW 6 8 kq (by omega) rq ?_);simp only[oq,cm,if_false];refine aa (rW 6 8 kp (by omega) rp ?_);simp only[oq,cm,if_false];refine aa (Aw 6 8 kq (by omega) rq ?_);simp only[cm,if_false];refine aa (Aw 6 8 kp (by omega) rp ?_);simp only[cm,if_false];exact ae ⟨rfl,rfl,rest'⟩
 ·rintro⟨r1,r2⟩ s' ⟨rfl,hr,_⟩;simp only at hr;subst hr;exact ae h
def iB(h0 h:Heap)(a:Addr)(ps:List PV):Prop:=∃o es ep t,h.get? a=some o/\o.ExactSet/\o.data=.set es ep t/\kU t es.size/\es.size=ps.length/\∀e∈es.toList,∃p∈ps,p.ky 6=true/\HR h0 p e.2/\∃b,e.2=.ref b
theorem JF{o:Obj}{es:Array (Int×Value)}{ep:Nat}{t:je}{x:Value}{q:PV}{k:Int}{Q:SetFound->Shared->Prop}(ho:s.heap.get? a=some o)(hd:o.data=.set es ep t)(ht:kU t es.size)(hu:A.units+6<cLine)
  (kq:q.ky 6=true) (rq:HR s.heap q x) (hes:∀e∈es.toList,∃p,p≠q/\p.ky 6=true/\HR s.heap p e.2/\∃b,e.2=.ref b) (h:∀j,t.slot j=.empty->Q (.free j false) s):
  ∀(fuel:Nat)(st:Option o9)(L:Nat),Go t (st.getD (t.probeStart k)) L->(st.getD (t.probeStart k)).more+10*L<10*(t.mask+15)->(st.getD (t.probeStart k)).more+10*L<fuel->wpAny (model prog w) A (setSearchFrom a x k true fuel st) Q E s:=by
 intro fuel
 induction fuel with
 |zero=>intro st L g h1 h2;omega
 |succ fuel ih=>
  intro st L g h1 h2;unfold setSearchFrom;refine aa (km ho hd ht.fits ?_);dsimp only;have hg:t.gaveWay=false:=by
   rcases ht.mask with e|e|e <;> simp[SetTable.gaveWay,e]
  rw[hg];simp only[cm,if_false];rcases MK ht _ k g h1 with⟨j,e,hs⟩|⟨j,i,p',L',e,hs,_,g',hm⟩
  ·rw[e];exact ae (h j hs)
  ·rw[e];dsimp only;have hi:i<es.size:=ht.live hs;have hei:es[i]?=some es[i]:=j7 hi;obtain⟨p,hpq,kp,rp,b,eb⟩:=hes es[i] (by simp);have hsame:isSame es[i].2 es[i].2=pure true:=by
    rw[eb];unfold isSame;simp only[beq_self_eq_true,if_true]
   have he:=LC kp kq hu rp rq;rw[decide_eq_false hpq]at he;have hsm:t.sameMemory t.moves t.mask=some true:=by simp[SetTable.sameMemory]
   have next:wpAny (model prog w) A (setSearchFrom a x k true fuel (some p')) Q E s:=ih (some p') L' g' (by show p'.more+10*L'<_;omega) (by show p'.more+10*L'<_;omega);refine BL (λ_=>?_) (λ_=>?_);refine aa (Qe ⟨q,kq,rq⟩ (λy hy=>?_) ?_)
   ·obtain⟨e,he,rfl⟩:=aq.mp hy;obtain⟨p,_,kp,rp,_⟩:=hes e (by
     have:e∈es/\e.1=k:=by simpa using he
     simpa using this.1)
    exact⟨p,kp,rp⟩
   rw[if_neg (by decide)]
   all_goals
    rw[hei];dsimp only;refine aa (c6 (he prog w _ _ ?_));refine aa (km ho hd ht.fits ?_);dsimp only;rw[if_neg (by decide),hsm];dsimp only;rw[if_pos rfl,hs];dsimp only;rw[hei];dsimp only;rw[hsame];refine aa (ae (aa (ae ?_)));exact next
end
section
variable{prog:Program}{w:World}{A:Around}{E:Value->Shared->Prop}{s:Shared}{a:Addr}
theorem insertAt_perm{α:Type}(xs:Array α){p:Nat}(x:α):(nk xs p x).toList.Perm (x::xs.toList):=by
 unfold nk;have e:((xs.extract 0 p).push x++xs.extract p xs.size).toList=xs.toList.take p++x::xs.toList.drop p:=by
  simp[l0]
 rw[e];refine List.perm_middle.trans ?_;rw[List.take_append_drop]
theorem nO{α:Type}(xs:Array α)(p:Nat)(x:α):(nk xs p x).size=xs.size+1:=by
 have:=(insertAt_perm xs (p:=p) x).length_eq;simpa using this
theorem WD{t:je}{n j:Nat}(h:kU t n):(t.put j).1.mask=t.mask/\(t.put j).1.dummies=#[]/\(t.put j).1.place.size=n+1:=by
 unfold SetTable.put;refine⟨rfl,?_,?_⟩
 ·simp[h.dum,SetTable.has]
 ·show(nk t.place _ j).size=_
  rw[nO,h.sz]
theorem Qf{h0:Heap}{ps:List PV}{q:PV}{x:Addr}{k:Int}{Q:Bool->Shared->Prop}(hk:∀b o,h0.get? b=some o->s.heap.get? b=some o)(hS:iB h0 s.heap a ps)(hb:ps.length<60)(hu:A.units+6<cLine)(hq:q∉ps)(kq:q.ky 6=true)(rq0:HR h0 q (.ref x))
  (h:∀h',gq a s.heap h'->iB h0 h' a (ps++[q])->Q true { s with heap:=h' }):wpAny (model prog w) A (setAddHashed a (.ref x) k) Q E s:=by
 obtain⟨o,es,ep,t,ho,hx,hd,ht,hn,hel⟩:=hS
 have keep:∀p v,HR h0 p v->HR s.heap p v:=λp v r=>HR.keep (λb it tp=>by
  obtain⟨qo,hq,hc,n,hdt⟩:=tp
  exact⟨qo,hk b qo hq,hc,n,hdt⟩) r
 have rq:=keep _ _ rq0
 unfold setAddHashed
 refine c6 ?_
 rw[setAddHashedIn.eq_def]
 refine aa (km ho hd ht.fits ?_)
 dsimp only
 rw[if_neg (by simp[byScan,Value.scannable])]
 obtain⟨L,hL,g⟩:=Go.start ht k
 have hst:=g.more
 have hm:t.mask<=127:=by rcases ht.mask with e|e|e <;> omega
 unfold setSearch
 refine aa (JF (k:=k) ho hd ht hu kq rq (λe he=>?_) (λj hj=>?_) 100000 none L g (by show(t.probeStart k).more+10*L<_;omega) (by show(t.probeStart k).more+10*L<_;omega))
 ·obtain⟨p,hp,h1,h2,h3⟩:=hel e he
  exact⟨p,λz=>hq (z▸hp),h1,keep _ _ h2,h3⟩
 dsimp only
 refine aa (km ho hd ht.fits ?_)
 dsimp only
 obtain⟨pm,pd,pz⟩:=WD (j:=j) ht
 have pe:=insertAt_perm es (p:=(t.put j).2) (k,c3 x)
 have psz:=nO es (t.put j).2 (k,c3 x)
 generalize (t.put j).1=t1 at pm pd pz
 generalize nk es (t.put j).2 (k,c3 x)=es1 at pe psz
 have fin:∀(h':Heap)(es':Array (Int×Value))(ep':Nat)(t':je),gq a s.heap h'->h'.get? a=some { o with data:=.set es' ep' t' }->es'.toList.Perm es1.toList->kU t' es'.size->Q true { s with heap:=h' }:=λh' es' ep' t' h1 h2 h3 h4=>by
  have hsz:es'.size=es1.size:=by have:=h3.length_eq;simpa using this
  refine h h' h1 ⟨_,es',ep',t',h2,⟨hx.1,hx.2.1,hx.2.2⟩,rfl,h4,by rw[hsz,psz,hn];simp,λe he=>?_⟩
  rcases ba.mp (pe.mem_iff.mp (h3.mem_iff.mp he)) with z|z
  ·subst z
   exact⟨q,by simp,kq,rq0,x,rfl⟩
  ·obtain⟨p,hp,k1,k2,k3⟩:=hel e z
   exact⟨p,by simp[hp],k1,k2,k3⟩
 have tail:∀t2:je,t2.mask=t1.mask->t2.dummies=t1.dummies->t2.place=t1.place->wpAny (model prog w) A (do
   storeSet a es1 t2
   if(!false&&t2.tooFull)=true then do
    setRelay a (SetTable.grown (es.size+1))
    pure true
   else pure true) Q E s:=by
  intro t2 e1 e2 e3
  have f1:t2.fill=es.size+1:=by simp[SetTable.fill,e2,e3,pd,pz]
  have hz:es1.size<=aw:=by rw[psz,hn,cx];omega
  refine aa (wpAny_storeSet_of ho hd ?_ hz)
  have g1:=Hs (es':=es1) (t':=t2) ho hd
  have sb:=dm s.heap a (Obj.putSet es1 t2)
  refine BL (λhc=>?_) (λhc=>?_)
  ·have hc:t2.fill*5 >= t2.mask*3:=by simpa[SetTable.tooFull] using hc
   obtain⟨m',hm',hw,l1,l2⟩:∃m',jJ m'/\SetTable.sizeAbove (SetTable.grown (es.size+1))=m'+1/\es.size+1<=t2.mask/\(m'=7/\es.size+1<=4\/m'=31/\es.size+1<=18\/m'=127/\es.size+1<=76):=by
    rcases ht.lim with⟨e,l⟩|⟨e,l⟩|⟨e,l⟩
    ·have:es.size=4:=by omega
     exact⟨31,.inr (.inl rfl),by rw[this];decide,by omega,.inr (.inl ⟨rfl,by omega⟩)⟩
    ·have:es.size=18:=by omega
     exact⟨127,.inr (.inr rfl),by rw[this];decide,by omega,.inr (.inr ⟨rfl,by omega⟩)⟩
    ·omega
   have hf2:t2.fits es1.size=true:=by
    simp[SetTable.fits,f1,e3,pz,psz]
    omega
   obtain⟨t3,order,r1,r2,r3⟩:=JD (t:=t2) (hs:=es1.map (·.1)) hm' hw (by simp[psz];omega) (by simpa[psz] using l2)
   have pk:=MM es1 (order:=order) (by simpa using r3)
   have hsz:(order.filterMap (es1[·]?)).size=es1.size:=by rw[<-dk,<-dk];exact pk.length_eq
   unfold setRelay
   refine aa (aa (km g1 rfl hf2 ?_))
   dsimp only
   rw[if_neg (by rw[hw,cx];omega),r1]
   refine(show wpAny _ _ ((if((order.filterMap (es1[·]?)).size != es1.size)=true then(unsupported "internal:set-table-lost-an-element" >>= λ_=>pure (order.filterMap (es1[·]?),t3)) else pure (order.filterMap (es1[·]?),t3)) >>= _) _ _ _ from ?_)
   rw[hsz,if_neg (by simp)]
   refine aa (ae ?_)
   refine wpAny_storeSet_of g1 rfl (ae ?_) (by rw[hsz];exact hz)
   refine fin _ _ _ _ (sb.trans (dm _ _ _)) (Hs (h:=s.heap.update a (Obj.putSet es1 t2)) (o:={ o with data:=.set es1 (ep+1) t2 }) g1 rfl) pk ?_
   rw[hsz]
   simpa using r2
  ·have hc:¬ t2.fill*5 >= t2.mask*3:=by simpa[SetTable.tooFull] using hc
   refine ae (fin _ _ _ _ sb g1 (List.Perm.refl _) ?_)
   rw[psz]
   exact⟨by rcases ht.lim with⟨e,l⟩|⟨e,l⟩|⟨e,l⟩ <;> omega,by rw[e2,pd],by rw[e3,pz]⟩
 refine BL (λ_=>?_) (λ_=>?_)
 ·refine aa (JE 6 8 kq (by omega) rq λb=>?_)
  cases b with
  |true=>exact tail t1 rfl rfl rfl
  |false=>exact tail _ rfl rfl rfl
 ·exact aa (ae (tail t1 rfl rfl rfl))
end
section
variable{prog:Program}{w:World}{A:Around}{E:Value->Shared->Prop}{s:Shared}{a:Addr}
theorem iB.kept{h0 h h':Heap}{ps:List PV}(H:iB h0 h a ps)(k:∀o,h.get? a=some o->h'.get? a=some o):iB h0 h' a ps:=by
 obtain⟨o,es,ep,t,ho,r⟩:=H;exact⟨o,es,ep,t,k o ho,r⟩
theorem FA{R:Result->Shared->Prop}{I:Addr}{fp wr:List Addr}{G:Array GenState->Array GenState->Prop}{P:Nat->Value->Prop}{St:Nat->Shared->Prop}{ps:List PV}(W:WalksS prog w A.in1 I fp wr G ps.length P St)(S:Addr)(hSf:S∉fp)(h0:Heap)(hS0:h0.get? S=none)(hw0:∀b∈wr,h0.get? b=none)
  (hval:∀i v(hi:i<ps.length),P i v->∃x,v=c3 x/\HR h0 ps[i] v) (hky:∀p∈ps,p.ky 6=true) (hnd:ps.Nodup) (hb:ps.length<=60) (hu:A.in1.units+6<cLine):∀(k i:Nat)(s:Shared),ps.length-i=k->i<=ps.length->St i s->(∀b o,h0.get? b=some o->s.heap.get? b=some o)->iB h0 s.heap S (ps.take i)->
   (∀s',Moved (S::wr) G s s'->iB h0 s'.heap S ps->R (.ok (.ret .none)) s')->codeAny (model prog w) A (.builtin "set.update.loop" ⟨[.ref S,.ref I],[]⟩) R s:=by
 have hSw:S∉wr:=λh=>hSf (W.sub S h);have hsub:∀b∈wr,b∈S::wr:=λb hb=>aj S hb;intro k
 induction k with
 |zero=>
  intro i s hk hi hst hkp hS hR;have:i=ps.length:=by omega
  subst this;rw[ja]at hS;refine ib PyProof.Rows.F.entry_set_update_loop ?_;rw[fe jh];refine(show wpAny _ _ (pyNext (.ref I) >>= _) _ _ s from aa (W.done s _ _ hst λs' hm=>?_))
  exact ae (hR s' (hm.mono hsub) (hS.kept λo ho=>hm.heap S o hSw ho))
 |succ k ih=>
  intro i s hk hi hst hkp hS hR;have hlt:i<ps.length:=by omega
  refine ib PyProof.Rows.F.entry_set_update_loop ?_;rw[fe jh];refine(show wpAny _ _ (pyNext (.ref I) >>= _) _ _ s from aa (W.item i s _ _ hlt hst λv s' hP hst' hm=>?_))
  obtain⟨x,rfl,rx⟩:=hval i v hlt hP;have hS':iB h0 s'.heap S (ps.take i):=hS.kept λo ho=>hm.heap S o hSw ho;have hkp':∀b o,h0.get? b=some o->s'.heap.get? b=some o:=λb o e=>hm.heap b o (λz=>by rw[hw0 b z]at e;cases e) (hkp b o e);have kx:=hky ps[i] (dr hlt);have rx':HR s'.heap ps[i] (.ref x):=HR.keep (λb it tp=>by
   obtain⟨qo,hq,hc,n,hdt⟩:=tp;exact⟨qo,hkp' b qo hq,hc,n,hdt⟩) rx
  have hni:ps[i]∉ps.take i:=λz=>by
   obtain⟨j,hj,e⟩:=List.getElem_of_mem z;have hj2:j<i:=by simp at hj;omega
   rw[List.getElem_take]at e;have:=(List.getElem_inj hnd).mp e;omega
  refine(show wpAny _ _ (holding [c3 x] (setAdd S (.ref x)) >>= _) _ _ s' from aa (c6 ?_))
  unfold setAdd;refine c6 (aa (D4 6 kx (by first|exact hu|(simp[Around.in1]at hu⊢;omega)) rx' ?_))
  refine Qf (h0:=h0) (s:={ s' with toks:=s'.toks+drw ps[i] }) hkp' hS' (by rw[eu];omega) (by first|exact hu|(simp[Around.in1]at hu⊢;omega)) hni kx rx λh' hsb hS2=>?_
  have e:ps.take i++[ps[i]]=ps.take (i+1):=by rw[fq];simp[hlt]
  rw[e]at hS2;refine ae ⟨jd jh _,ih (i+1) _ (by omega) hlt (W.frame (i+1) s' h' (s'.toks+drw ps[i]) hst' (Nat.le_add_right _ _) λb hb o e=>?_) (λb o e=>?_) hS2 λs'' hm'' hS''=>hR s'' ?_ hS''⟩
  ·rw[hsb.2 b λh=>hSf (h▸hb)];exact e
  ·rw[hsb.2 b λz=>by rw[z,hS0]at e;cases e];exact hkp' b o e
  ·refine Moved.trans W.gtrans (Moved.then_heap (hm.mono hsub) (Nat.le_add_right _ _) λb o hb e=>?_) hm'';rw[hsb.2 b λh=>hb (h▸ai)];exact e
theorem FB{l:Addr}{items:Array Value}{ps:List PV}{Q:Value->Shared->Prop}(hh:A.handled=none)(hl:s.heap.IsList l items)(hi:HRs s.heap ps items.toList)(href:∀v∈items.toList,∃x,v=c3 x)(hky:∀p∈ps,p.ky 6=true)(hnd:ps.Nodup)(hb:ps.length<=60)(hu:A.in1.in1.in1.units+6<cLine)
  (h:∀h' tk,iB s.heap h' s.heap.objs.size ps->(∀b o,s.heap.get? b=some o->h'.get? b=some o)->Q (.ref s.heap.objs.size) { s with heap:=h',toks:=tk }):
  wpAny (model prog w) A (call (.type "set") [.ref l]) Q E s:=by
 obtain⟨c,tl,hmro⟩:=oh.mro;have hmade:=oh.made;have hsub:=oh.sub;refine wpAny_call (codeAny_of_tree (show wpAny _ _ _ _ _ _ from ae ⟨Code.quiet_builtin _ (by simp),ib F.entry_type_call ?_⟩))
 rw[show A.under (Code.builtin "type.__call__" ⟨Value.type "set" :: [c3 l],[]⟩)=A.in1 from Around.under_plain (weight_type_call_type "set" [c3 l] []) rfl]
 unfold Builtin.«type.__call__»;dsimp only;have h1:=oh.notType;have h2:=oh.canCreate;refine wpAny_ite_false (show decide _=false from rfl) ?_
 refine wpAny_ite_false (show decide _=false from rfl) ?_
 refine aa (k9 (F.typeCall_set_1 (c3 l)) ?_);refine aa (k9 hmro ?_);refine wpAny_ite_false (show decide _=false from rfl) ?_
 refine aa (k9 hmade ?_);refine aa (ae ?_);refine aa (c6 (wpAny_call (codeAny_mono (code_set_new (E:=E) (Q₁:=λobj s₁=>obj=.ref s.heap.objs.size/\s₁={ s with heap:=s.heap.push { cls:=.type "set",data:=.set #[] 0 (f9 0 0 !rV w) } }) (c3 l) ⟨rfl,rfl⟩) λr s₁ hr=>?_)));cases r with
 |error e=>exact hr
 |ok fl=>
 cases fl with
 |next=>exact hr.elim
 |brk=>exact hr.elim
 |cont=>exact hr.elim
 |ret obj=>
  obtain⟨rfl,rfl⟩:=hr;have hT:({ s with heap:=s.heap.push { cls:=.type "set",data:=.set #[] 0 (f9 0 0 !rV w) } }:Shared).TypeIs (.ref s.heap.objs.size) "set" := ⟨_,a7 _ rfl,rfl⟩;refine(show wpAny _ _ _ _ _ _ from aa (oa hT hsub ?_))
  rw[if_neg (by decide)];refine aa (c6 (jc (name:=jt "__init__") hT oh.init ?_));refine wpAny_call (codeAny_call_builtin oh.init.plain F.entry_set_init (check_set_init_1 hT ?_));have ho:(s.heap.push { cls:=.type "set",data:=.set #[] 0 (f9 0 0 !rV w) }).get? s.heap.objs.size=some { cls:=.type "set",data:=.set #[] 0 (f9 0 0 !rV w) }:=a7 _ rfl;have hl':(s.heap.push { cls:=.type "set",data:=.set #[] 0 (f9 0 0 !rV w) }).IsList l items:=by
   obtain⟨o,e,r⟩:=hl;exact⟨o,ag _ e,r⟩
  have hTl:({ s with heap:=s.heap.push { cls:=.type "set",data:=.set #[] 0 (f9 0 0 !rV w) } }:Shared).TypeIs (.ref l) "list" := by
   obtain⟨o,e,r,_⟩:=hl';exact⟨o,e,r⟩
  have hS0:iB s.heap (s.heap.push { cls:=.type "set",data:=.set #[] 0 (f9 0 0 !rV w) }) s.heap.objs.size []:=
   ⟨_,_,_,_,ho,⟨rfl,rfl,rfl⟩,rfl,⟨.inl ⟨rfl,bw _⟩,rfl,rfl⟩,rfl,λe he=>(by cases he)⟩
  unfold Builtin.«set.__init__»;refine aa (show wpAny _ _ (pure ()) _ _ _ from ae ?_)
  refine(show wpAny _ _ (typeNameOfCut 200 (c3 s.heap.objs.size) >>= _) _ _ _ from aa ?_)
  unfold typeNameOfCut shownTypeOf;refine aa (aa (ju hT ?_));rw[if_neg (by decide)];refine ae (k9 (a:="set") (by rfl) ?_);refine aa (k9 (a:=()) (by rfl) ?_);refine aa (ae ?_);unfold setUsed;refine aa (aa (km ho rfl rfl (ae ?_)));refine wpAny_ite_false (show decide _=false from by cases rV w <;> rfl) ?_
  refine(show wpAny _ _ (Builtin.Frozenset.updateFrom "set.__init__" s.heap.objs.size (.ref l) >>= _) _ _ _ from aa ?_)
  unfold Builtin.Frozenset.updateFrom Builtin.Frozenset.isAnySet;refine aa ?_;refine aa (oa hTl F.sub_list_set ?_);refine oa hTl F.sub_list_frozenset ?_;rw[if_neg (by decide)];refine aa (ju hTl ?_);rw[if_neg (by decide)];refine aa (kh hl' ?_);refine aa (wpAny_runValue ?_);have ne1:s.heap.objs.size≠(s.heap.push { cls:=.type "set",data:=.set #[] 0 (f9 0 0 !rV w) }).objs.size:=a9 (ax ho);have hll:l<s.heap.objs.size:=by obtain⟨o,e,_⟩:=hl;exact ax e
  have ne2:s.heap.objs.size≠l:=Nat.ne_of_gt hll;have kp0:∀b o,s.heap.get? b=some o->(s.heap.push { cls:=.type "set",data:=.set #[] 0 (f9 0 0 !rV w) }).get? b=some o:=λb o e=>ag _ e;have hsz:s.heap.objs.size<(s.heap.push { cls:=.type "set",data:=.set #[] 0 (f9 0 0 !rV w) }).objs.size:=ax ho;clear hT hTl ho;generalize s.heap.push { cls:=.type "set",data:=.set #[] 0 (f9 0 0 !rV w) }=h0 at*;have hlen:items.size=ps.length:=by have:=hi.length;simp at this;omega
  have W:=Walks.toS (prog:=prog) (w:=w) (Walks.list (A:=A.in1.in1.in1) hh h0.objs.size l (a9 (kr hll hsz)) items);rw[hlen]at W;refine FA (A:=A.in1.in1) W s.heap.objs.size ?_ s.heap (Heap.get?_none_of_le (ak _)) (λb hb=>?_) (λi v hi2 hv=>?_) hky hnd hb hu ps.length 0 _ (Nat.sub_zero _) (bw _) ⟨⟨_,a7 _ rfl,rfl,rfl⟩,?_⟩ (λb o e=>ag _ (kp0 b o e)) (hS0.kept λo e=>ag _ e) λs' hm hS=>?_
  ·intro z;rcases ba.mp z with z|z
   ·exact ne1 z
   ·exact ne2 (bf.mp z)
  ·rw[bf.mp hb];exact Heap.get?_none_of_le (i4 hsz)
  ·have hv:items[i]?=some v:=by simpa using hv
   have hv2:items.toList[i]?=some v:=by simpa using hv
   obtain⟨x,rfl⟩:=href v (cq hv2);refine⟨x,rfl,?_⟩;obtain⟨u,h1,h2⟩:=hi.at (j:=i) (p:=ps[i]) (by simp[hi2]);rw[hv2]at h1;cases h1
   exact h2
  ·obtain⟨o,e,r⟩:=hl';exact⟨o,ag _ e,r⟩
  ·refine ae (ae (ae ?_));have e:=Moved.eq_with hm;rw[e];refine h s'.heap s'.toks hS λb o e=>hm.heap b o (λz=>?_) (ag _ (kp0 b o e));rcases ba.mp z with z|z
   ·exact a9 (ax e) z
   ·exact a9 (kr (ax e) hsz) (bf.mp z)
end
def pS(n:Nat):Obj->Prop:=λo=>o.ExactSet/\∃es ep t,o.data=.set es ep t/\t.fits es.size=true/\es.size=n
section
variable{C:MC}{k:Nat}{X:Cx}
theorem DE{pins:List (Addr×Obj)}{σ:St}{H:Hp}{s:Shared}{φ:List Addr}(I:Inv X pins σ H s)(hK:X.K=C.K):∀{ps:List PV}{vs:List V}{us:List Value},RVs C φ H ps vs->aO vs us->(∀p∈ps,p.isKt=true)->HRs s.heap ps us/\∀u∈us,∃x,u=c3 x
 |[],[],[],_,_,_=>⟨trivial,λ_ h=>nomatch h⟩
 |p::ps,v::vs,u::us,r,.cons ru rus,hk=>by
  obtain⟨h1,h2⟩:=DE I hK r.2 rus λp hp=>hk p (aj _ hp);have kp:=hk p ai;obtain⟨b,rfl⟩:=jG kp r.1;obtain rfl:u=c3 b:=ru;exact⟨⟨HJ I hK 6 (jF kp) r.1 rfl,h1⟩,λz hz=>(ba.mp hz).elim (λe=>⟨b,e⟩) (h2 z)⟩
 |[],_::_,_,r,_,_=>r.elim
 |_::_,[],_,r,_,_=>r.elim
theorem JG(c:Cxt C k X):bO X (.type "set") (λxs H Q=>∃l φ ps vs,xs=[.ref l]/\SqL X.K H l vs/\RVs C φ H ps vs/\(∀p∈ps,p.isKt=true)/\ps.Nodup/\ps.length<=60/\∀a,H a=none->Q (.ref a) (upd H a (xo a (pS ps.length)))):=by
 intro pins s σ H xs us Q I r h;obtain⟨l,φ,ps,vs,rfl,hq,rv,hk,nd,h60,q⟩:=h;obtain⟨u,rfl,ru⟩:=vals1 r;cases ru
 obtain⟨its,rvs,pl,hz⟩:=I.list hq;obtain⟨h1,h2⟩:=DE I c.K rv rvs hk;have hu:=c.hu64;refine FB (I.ok.hd c.calm) pl.isList (ps:=ps) (by simpa using h1) (by simpa using h2) (λp hp=>jF (hk p hp)) nd h60 (by show X.A.units+1+1+1+6<cLine;omega) λh' tk hS kp=>?_
 obtain⟨o,es,ep,t,ho,hx,hd,ht,hn,_⟩:=hS;exact⟨.ref s.heap.objs.size,_,I.laid (t':=tk) kp (ak _) (WC ⟨o,ho,hx,es,ep,t,hd,ht.fits,hn⟩),rfl,q _ I.fresh⟩
theorem JH:bO X (.builtin "len") (λxs H Q=>∃a n,xs=[.ref a]/\H a=some (xo a (pS n))/\n<=60/\Q (.int n) H):=by
 intro pins s σ H xs us Q I r h;obtain⟨a,n,rfl,hH,h60,q⟩:=h;obtain⟨u,rfl,ru⟩:=vals1 r;cases ru
 obtain⟨o,ho,hx,es,ep,t,hd,hf,hn⟩:=I.xo hH;refine call_len_set ho hx hd hf (by rw[hn];omega) ⟨.int n,H,I.tok _,⟨_,by rw[hn]⟩,q⟩
open Classical in
noncomputable def mE:PV->PH->Rs PV:=λx h=>match x with
 |.ref n=>match aN h n with
  |some ys=>if(∀p∈ys,p.isKt=true)/\ys.Nodup/\ys.length<=60 then .ok (.int ys.length) h else .bad
  |none=>.bad
 |_=>.bad
theorem MN{e:Expr}{me:Me}{p p2 pos pos2:Pos}(he:SE C k X e me)(hb:("len" : Str)∈C.bs)(hb2:("set" : Str)∈C.bs)(hg:Gl X "len" := by rfl)(hg2:Gl X "set" := by rfl)
  (hs1:bu [e] X.env=(false,eval e X.env)::bu [] X.env:=by rfl) (hp1:(backTo pos2 (bu [] X.env)).any (·.1)=false:=by rfl)
  (hs2:bu [.Call (.Name "set" p2) [e] [] pos2] X.env=(false,eval (.Call (.Name "set" p2) [e] [] pos2) X.env)::bu [] X.env:=by rfl) (hp2:(backTo pos (bu [] X.env)).any (·.1)=false:=by rfl):
  SE C k X (.Call (.Name "len" p) [.Call (.Name "set" p2) [e] [] pos2] [] pos) (mUn mE me):=λc=>
 (CL JH hg (c.bn _ hb) PyProof.Rows.Boot.«len» (lY (zT (JG c) hg2 (c.bn _ hb2) PyProof.Rows.Boot.«set» (lY (he c) rE hs1) (by decide) (by decide) hs1 hp1) rE hs2) (by decide) (by decide) hs2 hp2).imp λσ H Q h=>by
  obtain⟨φ,δ,h,rh,re,p⟩:=h;refine⟨φ,δ,h,rh,re,(post.bind p).imp ?_⟩;rintro v H1 ⟨φ1,x,h1,p1,t1,rh1,rv1,q1⟩;unfold mE at q1;split at q1
  ·rename_i n;obtain⟨a,rfl,ha⟩:=rv1;split at q1
   ·rename_i ys ey;obtain⟨⟨hk,nd,h60⟩,q1⟩:=q1.ite;obtain⟨a',vs,ha',sq,rvs⟩:=bJ rh1 ey;rw[ha]at ha';cases ha'
    refine⟨a,φ1,ys,vs,rfl,by rw[c.K];exact sq,rvs,hk,nd,h60,λb hb=>?_⟩;refine⟨b,ys.length,rfl,bF,h60,?_⟩;exact q1 φ1 (.int ys.length) _ az (Kp.new hb) (rh1.same (Ba.upd hb)) rfl
   ·exact q1.elim
  ·exact q1.elim
theorem FC{h:PH}{n:Nat}{ys:List PV}(e:aN h n=some ys)(hk:∀p∈ys,p.isKt=true)(nd:ys.Nodup)(hl:ys.length<=60):mE (.ref n) h=.ok (.int ys.length) h:=by
 unfold mE;dsimp only;rw[e];dsimp only;rw[if_pos ⟨hk,nd,hl⟩]
end
end L2
namespace K78
open PySem L2
noncomputable section
def Ax:Ms:=
 (aW (bK 5 (aD vAt (mC (.str "abcdefghijklmnopqrstuvwxyz")) (aD gE (aD bH (aD nB (mV 0) (mC (.int 64))) (aD Bp (mV 4) (aD bH (mC (.int 1)) (aD gE (aD nB (mV 0) (mC (.int 3))) (mC (.int 8)))))) (mC (.int 26)))))
  (D9 (mMt isL (onL dO) (mV 3) (aB (aD bH (aD bH (aD Jm (mC (.str "k")) (mV 2)) (mV 5)) (aD Jm (mC (.str "k")) (aD Fk (aD Fk (mV 1) (mC (.int 1))) (mV 2)))) aI))))
def BM:Ms:=
 (aW (bK 1 (aD bH (mC (.int 1)) (aD gE (mV 0) (mC (.int 8)))))
 (aW (bK 2 (aD gE (aD nB (mV 0) (mC (.int 8))) (mV 1)))
 (aW (bK 3 (pI aI))
 (aW (kJ (kI (aB (aD bH (mC (.int 1)) (aD gE (aD nB (mV 0) (mC (.int 5))) (mC (.int 6)))) aI)) (gN 4) Ax)
 (cA (mV 3))))))
def uX:Fn:=mFn 6 BM
def BN:Ms:=
 (cA (bB [none,some 2,some 1] (aZ (mV 0)) (gN 0) (bQ (aD vLe (aD vAt (aD vAt (mV 0) (mC (.int 0))) (mC (.int 1))) (aD vAt (mV 1) (mMt isL sL (mV 2) (aB (aD vAt (aD vAt (mV 0) (mC (.int 0))) (mC (.int 0))) aI))))) (mV 0)))
def pY:Fn:=mFn 3 BN
def FD:Ms:=
 (cA (mCB rZ (aB (mCB gX (aB (bB [none,some 0,some 1] (kI (aB (mCB gF (aB (mV 0) aI)) aI)) (gN 0) (bQ (aD vGt (aD vAt (mV 2) (mV 0)) (mC (.int 0)))) (jC (aB (aD vAt (mV 1) (mV 0)) (aB (aD vAt (mV 2) (mV 0)) aI)))) aI)) aI)))
def xE:Fn:=mFn 2 FD
def BO:Ms:=
 (aW (iI (Ab (bQ (aD vEq (aD gE (mV 0) (mC (.int 2))) (mC (.int 1)))) (bQ (aD vGt (mV 0) (aD LG (mC (.int 10)) (mC (.int 9))))))
  (cA (aD gE (aD nB (mV 0) (mC (.int 2))) (aD LG (mC (.int 10)) (mC (.int 9)))))
  kH)
 (aW (bK 2 (aD gE (aD Bp (aD bH (aD bH (mV 0) (aD Bp (mC (.int 7919)) (mV 1))) (mC (.int 1))) (mC (.int 48271))) (mC (.int 2147483647))))
 (cA (aD gE (aD Bp (mV 2) (aD bH (aD nB (mV 2) (mC (.int 1009))) (mC (.int 69621)))) (mC (.int 2147483647))))))
def pZ:Fn:=mFn 3 BO
def MP:Ms:=
 (aW (bK 3 (aY 2 pZ (aB (mV 2) (aB (mC (.int 1)) aI))))
 (aW (iI (bQ (aD tW (mV 0) (mC (.int 2))))
  (cA (jC (aB (mC (.str "settle")) aI)))
  kH)
 (aW (iI (Ab (bQ (aD vEq (mV 0) (mC (.int 2)))) (bQ (aD vGt (mV 1) (mC (.int 0)))))
  (aW (bK 4 (aD bH (mC (.int 1)) (aD gE (mV 3) (mV 1))))
  (cA (jC (aB (mC (.str "back")) (aB (mV 4) (aB (aD bH (mV 4) (aD gE (aD nB (mV 3) (mC (.int 64))) (aD Fk (aD bH (mV 1) (mC (.int 1))) (mV 4)))) aI))))))
  kH)
 (cA (jC (aB (mC (.str "add")) (aB (jC (aB (mC (.str "t")) (aB (mC (.int 1)) aI))) (aB (aD gE (mV 2) (aD LG (mC (.int 10)) (mC (.int 39)))) aI))))))))
def DF:Fn:=mFn 5 MP
def FF:Ms:=
 (aW (bK 4 (aD gE (mV 3) (mCB gF (aB (mV 2) aI))))
 (aW (bK 5 (mCB D8 (aB (aD vAt (mV 1) (mV 4)) aI)))
 (aW (bK 6 (aD gE (aD nB (mV 3) (mCB gF (aB (mV 2) aI))) (mC (.int 8))))
 (aW (iI (bQ (aD tW (mV 6) (mC (.int 5))))
  (aW (bK 7 (jC (aB (aD vAt (mV 2) (mV 4)) (aB (aD bH (aD vAt (mV 5) (mV 4)) (mC (.int 1))) aI))))
  (aW (bK 8 (jC (aB (mV 7) (aB (aY 2 xE (aB (mV 2) (aB (mV 5) aI))) (aB (aY 3 DF (aB (mV 6) (aB (aD vAt (mV 5) (mV 4)) (aB (aD nB (mV 3) (mC (.int 32))) aI)))) aI)))))
  (aW (nN (aD bH (aD vAt (mV 5) (mV 4)) (mC (.int 1))) (mV 5) (mV 4))
  (D9 (mMt isL (onL dO) (mV 0) (aB (jC (aB (mV 8) (aB (mV 5) aI))) aI))))))
  (aW (bK 9 (aD gE (aD bH (aD bH (mV 4) (mC (.int 1))) (aD gE (aD nB (mV 3) (mC (.int 32))) (mCB pW (aB (mC (.int 1)) (aB (aD Fk (mCB gF (aB (mV 2) aI)) (mC (.int 1))) aI))))) (mCB gF (aB (mV 2) aI))))
  (aW (bK 10 (aD vAt (mV 1) (mV 9)))
  (aW (bK 11 (bB [none,some 2,some 9] (aZ (mV 0)) (gN 0) (bQ (aD vEq (aD vAt (aD vAt (aD vAt (mV 0) (mC (.int 0))) (mC (.int 0))) (mC (.int 0))) (aD vAt (mV 1) (mV 2)))) (mV 0)))
  (aW (iI (Ab (bQ (aD tW (mV 6) (mC (.int 7)))) (bQ (aD Qa (mV 11) (pI aI))))
   (bK 10 (aD vAt (aD vAt (mV 11) (aD gE (aD nB (mV 3) (mC (.int 64))) (mCB gF (aB (mV 11) aI)))) (mC (.int 1))))
   kH)
  (bK 5 (bB [none,some 5,some 10] (kI (aB (mCB gF (aB (mV 2) aI)) aI)) (gN 0) fK (mCB pW (aB (aD vAt (mV 1) (mV 0)) (aB (aD vAt (mV 2) (mV 0)) aI))))))))))
 (cA (aD bH (aD bH (mSl (mV 1) D7 (mP (mV 4))) (pI (aB (mV 5) aI))) (mSl (mV 1) (mP (aD bH (mV 4) (mC (.int 1)))) D7)))))))
def BP:Fn:=mFn 12 FF
def kW:Ms:=
 (cA (aD vAt (aD vAt (mV 0) (mC (.int 0))) (mC (.int 1))))
def cQ:Fn:=mFn 1 kW
def sM:Ms:=
 (cA (HX cQ (bB [none,some 0] (aZ (mV 1)) (gN 0) (bQ (aD vEq (aD vAt (aD vAt (mV 0) (mC (.int 0))) (mC (.int 0))) (mV 1))) (mV 0))))
def iM:Fn:=mFn 2 sM
def qA:Ms:=
 (cA (aD bH (mC (.int 1)) (mCB M9 (aB (bB [none] (aZ (aD vAt (mV 0) (mC (.int 1)))) (gN 0) fK (aD vAt (mV 0) (mC (.int 1)))) aI))))
def cZ:Fn:=mFn 1 qA
def BQ:Ms:=
 (aW (bK 2 (bB [none] (aZ (mV 1)) (gN 0) (bQ (aD vEq (aD vAt (aD vAt (mV 0) (mC (.int 2))) (mC (.int 0))) (mC (.str "settle")))) (mV 0)))
 (aW (bK 3 (bB [none,some 2] (aZ (mV 0)) (gN 0) fK (aY 2 iM (aB (mV 0) (aB (mV 1) aI)))))
 (cA (mCB Aq (aB (bB [none] (aZ (mV 3)) (gN 0) fK (mIf (bQ (aD vIs (mV 0) (mC .non))) (mC (.int 0)) (aY 1 cZ (aB (mV 0) aI)))) aI)))))
def jK:Fn:=mFn 4 BQ
def xF:Ms:=
 (nN (mCB pW (aB (mV 4) (aB (mMt dQ Di (mV 2) (aB (mV 3) (aB (mV 4) aI))) aI))) (mV 2) (mV 3))
def xG:Ms:=
 (aW (bK 2 (mCB BI (aB (mV 0) aI)))
 (aW (kJ (aZ (mV 1)) (gTp 2 (gCn (gN 3) (gCn (gN 4) gNl))) xF)
 (cA (mCB rZ (aB (mCB gX (aB (PC dQ wM (mV 2)) aI)) aI)))))
def qB:Fn:=mFn 5 xG
def sN:Ms:=
 (cA (aY 2 qB (aB (mV 0) (aB (jC (aB (mV 1) aI)) aI))))
def mH:Fn:=mFn 2 sN
def BR:Ms:=
 (aW (bK 2 (aY 2 iM (aB (mV 0) (aB (mV 1) aI))))
 (cA (mIf (bQ (aD vIs (mV 2) (mC .non))) (jC aI) (aY 2 mH (aB (aD vAt (mV 2) (mC (.int 1))) (aB (aD vAt (mV 2) (mC (.int 0))) aI))))))
def uY:Fn:=mFn 3 BR
def FG:Ms:=
 (aW (Jf (aD vAt (mV 0) (mC (.int 0))) (gTp 2 (gCn (gN 1) (gCn (gN 2) gNl))))
 (cA (jC (aB (aY 1 cZ (aB (mV 0) aI)) (aB (mV 1) (aB (mV 2) aI))))))
def BS:Fn:=mFn 3 FG
def qC:Ms:=
 (nN (mV 2) (mV 1) (aD vAt (mV 2) (mC (.int 0))))
def oG:Ms:=
 (aW (bK 1 rY)
 (aW (kJ (aZ (mV 0)) (gN 2) qC)
 (cA (sH BS false (PC dQ Dm (mV 1))))))
def dB:Fn:=mFn 3 oG
def xH:Ms:=
 (iI (bQ (aD vEq (mV 2) (aD vAt (mV 1) (mC (.int 0)))))
   (cA (aD vLe (aD vAt (mV 1) (mC (.int 1))) (mV 3)))
   kH)
def xI:Ms:=
 (aW (kJ (aZ (mV 0)) (gTp 2 (gCn (gN 2) (gCn (gN 3) gNl))) xH)
 (cA (mC (.bl false))))
def iN:Fn:=mFn 4 xI
def FH:Ms:=
 (aW (bK 2 (aY 2 jK (aB (mV 0) (aB (mV 1) aI))))
 (aW (bK 3 (bB [none,some 2] (aZ (aY 1 dB (aB (mV 1) aI))) (gN 0) (bQ (aD vLe (aY 1 cZ (aB (mV 0) aI)) (mV 1))) (aD vAt (mV 0) (mC (.int 0)))))
 (aW (bK 4 (bB [none,some 1] (aZ (mV 0)) (gN 0) fK (aY 2 uY (aB (mV 0) (aB (mV 1) aI)))))
 (cA (bB [none,some 4] (aZ (mV 3)) (gN 0) (bQ (mCB Mb (aB (bB [none,some 0] (aZ (mV 1)) (gN 0) fK (aY 2 iN (aB (mV 0) (aB (mV 1) aI)))) aI))) (mV 0))))))
def xJ:Fn:=mFn 5 FH
def sO:Ms:=
 (cA (aD vAt (mV 0) (mC (.int 0))))
def iO:Fn:=mFn 1 sO
def qD:Ms:=
 (aW (Jf (aD vAt (mV 2) (mC (.int 2))) (gTp 3 (gCn (gN 3) (gCn (gN 4) (gCn (gN 5) gNl)))))
  (iI (bQ (LN vLe vLe (mV 4) (mV 0) (mV 5)))
   (cA (aD vAt (mV 2) (mC (.int 0))))
   kH))
def oH:Ms:=
 (aW (kJ (aZ (mV 1)) (gN 2) qD)
 (cA (mC .non)))
def jL:Fn:=mFn 6 oH
def xK:Ms:=
 (aW (Jf (aD vAt (mV 3) (mC (.int 0))) (gTp 2 (gCn (gN 4) (gCn (gN 5) gNl))))
  (aW (bK 6 (aD vAt (aD vAt (mV 3) (mC (.int 2))) (mC (.int 0))))
  (aW (iI (bQ (aD vEq (mV 6) (mC (.str "settle"))))
   (aW (nN (pI aI) (mV 2) (mV 4))
   Tz)
   kH)
  (aW (bK 7 (aY 2 jL (aB (mV 5) (aB (mMt dQ Di (mV 2) (aB (mV 4) (aB (pI aI) aI))) aI))))
  (iI (bQ (aD vX (mV 7) (mC .non)))
   (nN (mV 7) (mV 1) (aD vAt (mV 3) (mC (.int 0))))
   (iI (bQ (aD vEq (mV 6) (mC (.str "back"))))
    (D9 (mMt isL (onL dO) (mMt dQ mD (mV 2) (aB (mV 4) (aB (pI aI) aI))) (aB (mV 3) aI)))
    kH))))))
def xM:Ms:=
 (aW (bK 1 rY)
 (aW (bK 2 rY)
 (aW (kJ (aZ (sH iO true (mV 0))) (gN 3) xK)
 (cA (mV 1)))))
def qE:Fn:=mFn 8 xM
def oI:Ms:=
 (aW (bK 1 (aY 1 dB (aB (mV 0) aI)))
 (aW (bK 2 (aY 1 qE (aB (mV 1) aI)))
 (cA (bB [none,some 2] (aZ (mV 1)) (gN 0) (bQ (aD cE (aD vAt (mV 0) (mC (.int 0))) (mV 1))) (mV 0)))))
def dC:Fn:=mFn 3 oI
def sP:Ms:=
 (aW (bK 2 (aY 2 jK (aB (mV 0) (aB (mV 1) aI))))
 (cA (bB [none,some 2] (aZ (aY 1 dC (aB (mV 1) aI))) (gN 0) (bQ (aD vLe (aY 1 cZ (aB (mV 0) aI)) (mV 1))) (mV 0))))
def mI:Fn:=mFn 3 sP
def kX:Ms:=
 (nN (aD bH (mMt dQ Di (mV 1) (aB (mV 2) (aB (mC (.int 0)) aI))) (mC (.int 1))) (mV 1) (mV 2))
def kY:Ms:=
 (iI (bQ (aD vGt (mV 3) (aD vAt (mV 1) (mV 2))))
   (cA (mC (.bl false)))
   kH)
def jM:Ms:=
 (aW (bK 1 rY)
 (aW (kJ (aZ (mV 0)) (gTp 2 (gCn (gN 2) (gCn (gN 3) gNl))) kX)
 (aW (kJ (aZ (mV 0)) (gTp 2 (gCn (gN 2) (gCn (gN 3) gNl))) kY)
 (cA (aD vEq (mUn mE (mV 0)) (mCB gF (aB (mV 0) aI)))))))
def dS:Fn:=mFn 4 jM
def FI:Ms:=
 (aW (bK 3 (aY 2 jK (aB (mV 0) (aB (mV 1) aI))))
 (aW (bK 4 (bB [none,some 3] (aZ (mV 2)) (gN 0) (bQ (aD vLe (aY 1 cZ (aB (mV 0) aI)) (mV 1))) (mV 0)))
 (aW (iI (bQ (aD vNe (bB [none,some 1] (aZ (mV 4)) (gN 0) (bQ (aD cE (mV 0) (mV 1))) (mV 0)) (pI aI)))
  (cA (mC (.bl false)))
  kH)
 (aW (iI (bQ (aD vNe (aY 2 mI (aB (mV 0) (aB (mV 1) aI))) (bB [none,some 3] (aZ (aY 1 dC (aB (mV 2) aI))) (gN 0) (bQ (aD vLe (aY 1 cZ (aB (mV 0) aI)) (mV 1))) (mV 0))))
  (cA (mC (.bl false)))
  kH)
 (aW (bK 5 (aY 2 xJ (aB (mV 0) (aB (mV 1) aI))))
 (aW (bK 6 (aY 2 xJ (aB (mV 0) (aB (mV 2) aI))))
 (aW (iI (LO (bQ (aD tW (aY 2 jK (aB (mV 0) (aB (mV 2) aI))) (mV 3))) (bQ (aD vNe (bB [none,some 6] (aZ (mV 5)) (gN 0) (bQ (aD cE (mV 0) (mV 1))) (mV 0)) (pI aI))))
  (cA (mC (.bl false)))
  kH)
 (cA (Hz (aY 1 dS (aB (mV 5) aI)) (aY 1 dS (aB (mV 6) aI)))))))))))
def xN:Fn:=mFn 7 FI
def BU:Ms:=
 (D9 (mMt isL (onL dO) (mV 4) (aB (aY 4 BP (aB (mV 3) (aB (aD vAt (mV 4) (mUn LI (mC (.int 1)))) (aB (mV 2) (aB (mV 5) aI))))) aI)))
def BV:Ms:=
 (aW (bK 10 (aY 3 pY (aB (mV 6) (aB (mV 2) (aB (aD vAt (aD vAt (mV 4) (mV 8)) (mV 9)) aI)))))
  (aW (bK 11 (mUn Ap (aY 3 pY (aB (mV 6) (aB (mV 2) (aB (aD vAt (aD vAt (mV 4) (mV 7)) (mV 9)) aI))))))
  (iI (LO (Hy (bQ (aY 3 xN (aB (mV 2) (aB (mV 10) (aB (mV 11) aI)))))) (Hy (bQ (aY 3 xN (aB (mV 2) (aB (mV 11) (aB (mV 6) aI)))))))
   (cA (mC (.bl false)))
   kH)))
def MQ:Ms:=
 (aW (bK 1 (mC (.int 0)))
 (aW (iI (bQ (aD vGt (mCB gF (aB (mV 0) aI)) (mC (.int 0))))
  (bK 1 (aD vAt (mV 0) (mC (.int 0))))
  kH)
 (aW (bK 2 (aY 1 uX (aB (mV 1) aI)))
 (aW (bK 3 (pI aI))
 (aW (bK 4 (pI (aB (bB [none,some 2] (aZ (mV 2)) (gN 0) fK (bB [none] (aZ (mV 1)) (gN 0) fK (mC (.int 0)))) aI)))
 (aW (kJ (aZ (mSl (mV 0) (mP (mC (.int 1))) (mP (mC (.int 51))))) (gN 5) BU)
 (aW (bK 6 (bB [none] (aZ (mV 3)) (gN 0) fK (aD vAt (mV 0) (mC (.int 0)))))
 (aW (bK 7 (aD gE (aD nB (mV 1) (mC (.int 7))) (mCB gF (aB (mV 4) aI))))
 (aW (bK 8 (aD gE (aD nB (mV 1) (mC (.int 11))) (aD bH (mV 7) (mC (.int 1)))))
 (aW (kJ (kI (aB (mCB gF (aB (mV 2) aI)) aI)) (gN 9) BV)
 (cA (mC (.bl true)))))))))))))
def MR:Fn:=mFn 12 MQ
end
end K78
namespace K78
open PySem L2
abbrev Seen:=List (Str×Int)
def ltS(a b:Str):Prop:=a.cps.toList<b.cps.toList
def look:Seen->Str->Option Int
 |[],_=>none
 |p::r,h=>if p.1=h then some p.2 else look r h
theorem fN(p:Str×Int)(r:Seen)(h:Str):look (p::r) h=if p.1=h then some p.2 else look r h:=(rfl)
def Asc(S:Seen):Prop:=S.Pairwise λa b=>ltS a.1 b.1
def dput(kvs:Seen)(h:Str)(n:Int):Seen:=if(look kvs h).isSome then kvs.map (λp=>if p.1=h then(p.1,n) else p) else kvs++[(h,n)]
def emb(kvs:Seen):List (Key×PV):=kvs.map λp=>(.inr p.1,.int p.2)
def row(p:Str×Int):List Key:=[.inr p.1,.inl p.2]
def sv(S:Seen):PV:=.tup (S.map λp=>.tup [.str p.1,.int p.2])
theorem kZ(h:Str):∀kvs:Seen,aU (emb kvs) (.inr h)=(look kvs h).map PV.int
 |[]=>rfl
 |p::r=>by
  show aU ((mz p.1,PV.int p.2)::emb r) (.inr h)=_
  unfold aU look
  by_cases e:p.1=h
  ·rw[if_pos e,if_pos (by rw[e])];rfl
  ·rw[if_neg e,if_neg (by simpa using e)];exact kZ h r
theorem BW(kvs:Seen)(h:Str)(n:Int):dI (emb kvs) (.inr h) (.int n)=emb (dput kvs h n):=by
 unfold dI dput;rw[kZ];cases look kvs h with
 |none=>simp[emb]
 |some m=>
  simp only[Option.map_some,jx,if_true];unfold emb;rw[cu,cu];apply d8;intro p _
  by_cases e:p.1=h
  ·simp[e]
  ·simp[e]
theorem sQ{S:Seen}{h:Str}:look S h=none ↔ ∀p∈S,p.1≠h:=by
 induction S with
 |nil=>simp[look]
 |cons p r ih=>
  unfold look
  by_cases e:p.1=h
  ·simp[e]
  ·simp[e,ih]
theorem qF{S:Seen}{h:Str}{n:Int}(e:look S h=some n):(h,n)∈S:=by
 induction S with
 |nil=>cases e
 |cons p r ih=>
  unfold look at e;split at e
  ·rename_i z;cases e
   rw[<-z];exact ai
  ·exact aj _ (ih e)
theorem MS{S T:Seen}{h:Str}:look (S++T) h=(look S h).or (look T h):=by
 induction S with
 |nil=>simp[look]
 |cons p r ih=>
  show look (p::(r++T)) h=_
  rw[fN,fN];split
  ·simp
  ·exact ih
theorem MT{S:Seen}{h h':Str}{n:Int}:look (S.map λp=>if p.1=h then(p.1,n) else p) h'=(look S h').map λm=>if h'=h then n else m:=by
 induction S with
 |nil=>rfl
 |cons p r ih=>
  rw[a8]
  by_cases e:p.1=h
  ·rw[if_pos e];unfold look
   by_cases e':p.1=h'
   ·rw[if_pos e',if_pos e'];simp[<-e',e]
   ·rw[if_neg e',if_neg e'];exact ih
  ·rw[if_neg e];unfold look
   by_cases e':p.1=h'
   ·have:¬ h'=h:=λz=>e (e'.trans z);rw[if_pos e',if_pos e'];simp[this]
   ·rw[if_neg e',if_neg e'];exact ih
theorem xO(S:Seen)(h h':Str)(n:Int):look (dput S h n) h'=if h'=h then some n else look S h':=by
 unfold dput;cases e:look S h with
 |some m=>
  simp only[jx,if_true];rw[MT]
  by_cases z:h'=h
  ·subst z;simp[e]
  ·simp[z]
 |none=>
  simp only[Option.isSome_none,cm,if_false];rw[MS]
  by_cases z:h'=h
  ·subst z;simp[e,look]
  ·have z':¬ h=h':=λq=>z q.symm;simp[look,z,z']
theorem keys_map{S:Seen}{h:Str}{n:Int}:(S.map λp=>if p.1=h then(p.1,n) else p).map (·.1)=S.map (·.1):=by
 rw[cu];apply d8;intro p _
 by_cases e:p.1=h <;> simp[e]
theorem JI{S:Seen}{h:Str}{n:Int}(hn:(S.map (·.1)).Nodup):((dput S h n).map (·.1)).Nodup:=by
 unfold dput;cases e:look S h with
 |some m=>simp only[jx,if_true];rw[keys_map];exact hn
 |none=>
  simp only[Option.isSome_none,cm,if_false];rw[c7,jk];refine⟨hn,by simp,λx hx y hy=>?_⟩;obtain⟨p,hp,rfl⟩:=aq.mp hx;have:y=h:=by simpa using hy
  subst this;exact sQ.mp e p hp
theorem Qg{S:Seen}{h:Str}{n:Int}:(dput S h n).length<=S.length+1:=by
 unfold dput;split <;> simp
theorem iP{S:Seen}(hn:(S.map (·.1)).Nodup){p:Str×Int}(hp:p∈S):look S p.1=some p.2:=by
 induction S with
 |nil=>cases hp
 |cons q r ih=>
  rw[a8,gz]at hn;unfold look;rcases ba.mp hp with rfl|hp
  ·simp
  ·have:¬ q.1=p.1:=λz=>hn.1 (z▸aq.mpr ⟨p,hp,rfl⟩);rw[if_neg this];exact ih hn.2 hp
theorem Qh(a:Str):¬ ltS a a:=List.lt_irrefl _
theorem fO{S:Seen}(h:Asc S):(S.map (·.1)).Nodup:=by
 unfold List.Nodup;rw[dt];exact h.imp λ{a b} q e=>by rw[e]at q;exact Qh _ q
def d1(one:Seen):Seen:=one.foldl (λacc p=>dput acc p.1 p.2) []
def fA(acc:Seen)(p:Str×Int):Seen:=dput acc p.1 (if(look acc p.1).getD p.2>p.2 then(look acc p.1).getD p.2 else p.2)
def d2(one other:Seen):Seen:=other.foldl fA (d1 one)
def mx:Option Int->Option Int->Option Int
 |none,o=>o
 |some n,none=>some n
 |some n,some m=>some (if m>n then m else n)
theorem Ia:∀(one:Seen)(acc:Seen),(one.map (·.1)).Nodup->∀h,look (one.foldl (λacc p=>dput acc p.1 p.2) acc) h=(look one h).or (look acc h)
 |[],acc,_,h=>by simp[look]
 |p::r,acc,hn,h=>by
  rw[a8,gz]at hn;rw[ou,Ia r _ hn.2,xO]
  show _=(look (p::r) h).or _
  rw[fN]
  by_cases e:p.1=h
  ·have:look r h=none:=sQ.mpr λq hq z=>hn.1 (by rw[e,<-z];exact aq.mpr ⟨q,hq,rfl⟩);rw[if_pos e.symm,if_pos e,this];rfl
  ·rw[if_neg λz=>e z.symm,if_neg e]
theorem Ay:∀(other:Seen)(acc:Seen),(other.map (·.1)).Nodup->∀h,look (other.foldl fA acc) h=mx (look other h) (look acc h)
 |[],acc,_,h=>rfl
 |p::r,acc,hn,h=>by
  rw[a8,gz]at hn;rw[ou,Ay r _ hn.2];unfold fA;rw[xO]
  show _=mx (look (p::r) h) _
  rw[fN]
  by_cases e:p.1=h
  ·have:look r h=none:=sQ.mpr λq hq z=>hn.1 (by rw[e,<-z];exact aq.mpr ⟨q,hq,rfl⟩);rw[if_pos e.symm,if_pos e,this,e];cases look acc h with
   |none=>simp[mx]
   |some m=>simp[mx]
  ·rw[if_neg λz=>e z.symm,if_neg e]
theorem oJ:∀(other:Seen)(acc:Seen)(f:Seen->Str×Int->Int),(acc.map (·.1)).Nodup->((other.foldl (λa p=>dput a p.1 (f a p)) acc).map (·.1)).Nodup
 |[],_,_,h=>h
 |_::r,_,f,h=>oJ r _ f (JI h)
theorem lE:∀(other:Seen)(acc:Seen)(f:Seen->Str×Int->Int),(other.foldl (λa p=>dput a p.1 (f a p)) acc).length<=acc.length+other.length
 |[],_,_=>ak _
 |p::r,acc,f=>by
  have h1:=lE r (dput acc p.1 (f acc p)) f;have h2:=Qg (S:=acc) (h:=p.1) (n:=f acc p);rw[ou,dg];omega
def DG:List Key->Str×Int
 |[.inr x,.inl n]=>(x,n)
 |_=>("",0)
theorem MU{a b:Str}(h:a.cps.toList=b.cps.toList):a=b:=by
 obtain⟨x⟩:=a;obtain⟨y⟩:=b
 congr 1
 exact Array.toList_inj.mp h
theorem Qi{a b:Str×Int}(h:bM (row b) (row a)=false)(hne:a.1≠b.1):ltS a.1 b.1:=by
 unfold row bM at h;rw[if_neg (λz=>hne (by injection z with z;exact z.symm))]at h;have h':¬ b.1.cps.toList<a.1.cps.toList:=by simpa[keyLt] using h
 rcases Classical.em (a.1.cps.toList<b.1.cps.toList) with q|q
 ·exact q
 ·exact absurd (MU (List.le_antisymm h' q)) hne
theorem uD{D:Seen}(hn:(D.map (·.1)).Nodup):∃S:Seen,cP (D.map row)=S.map row/\S.Perm D/\Asc S:=by
 have hp:=eZ (D.map row);have e1:(D.map row).map DG=D:=by
  rw[cu]
  conv=>rhs;rw[<-List.map_id D]
  rfl
 have p2:((cP (D.map row)).map DG).Perm D:=by
  have:=hp.map DG
  rwa[e1]at this
 have e2:((cP (D.map row)).map DG).map row=cP (D.map row):=by
  rw[cu]
  conv=>rhs;rw[<-List.map_id (cP (D.map row))]
  apply d8;intro z hz;obtain⟨p,_,rfl⟩:=aq.mp (hp.mem_iff.mp hz);rfl
 refine⟨_,e2.symm,p2,?_⟩;have s1:(cP (D.map row)).Pairwise (λa b=>bM b a=false):=hW (S:=[false,true]) λy hy=>by
  obtain⟨p,_,rfl⟩:=aq.mp hy;rfl
 rw[<-e2,dt]at s1;have n1:(((cP (D.map row)).map DG).map (·.1)).Nodup:=(p2.map (·.1)).nodup_iff.mpr hn;unfold List.Nodup at n1;rw[dt]at n1;exact(s1.and n1).imp λ{a b} h=>Qi h.1 h.2
theorem Az:∀S:Seen,kN (S.map λp=>PV.tup [.str p.1,.int p.2])=some (emb S)
 |[]=>rfl
 |p::r=>by
  rw[a8];unfold kN;rw[Az r];rfl
theorem AA:∀(S acc:Seen),sF (emb acc) (emb S)=emb (S.foldl (λacc p=>dput acc p.1 p.2) acc)
 |[],_=>rfl
 |p::r,acc=>by
  show sF (dI (emb acc) (.inr p.1) (.int p.2)) (emb r)=_
  rw[BW,AA r];rfl
theorem AB(D:Seen):nH (D.map row)=true:=by
 cases D with
 |nil=>rfl
 |cons p r=>
  rw[a8];unfold nH;rw[cw];refine⟨rfl,bz.mpr λz hz=>?_⟩;obtain⟨q,_,rfl⟩:=aq.mp hz;rfl
theorem AC{n:Nat}{h:PH}{S:Seen}(e:h[n]?=some (.lst ((S.map row).map tP))):rZ [.ref n] h=.ok (sv S) h:=by
 simp[rZ,aN,e];unfold sv
 congr 1
theorem JJ(one other:Seen)(n1:(one.map (·.1)).Nodup)(n2:(other.map (·.1)).Nodup)(hl:one.length+other.length<64)(h:PH)(Q:PV->PH->Prop)
  (k:∀S h',Ext h h'->Asc S->S.length<=one.length+other.length->(∀x,look S x=mx (look other x) (look one x))->Q (sv S) h'):(qB [sv one,sv other] h).W Q:=by
 refine eY ?_;have m0:sF [] (emb one)=emb (d1 one):=AA one [];have hd1:(d1 one).length<=one.length:=by
  have h0:(d1 one).length<=([]:Seen).length+one.length:=lE one [] (λ_ p=>p.2);simpa using h0
 have ed:∀h,BI [.tup (one.map λp=>PV.tup [.str p.1,.int p.2])] h=wK [.tup (one.map λp=>PV.tup [.str p.1,.int p.2])] h:=λh=>rfl;simp[xG,aL,sv,ed,Dk (Az one),m0];refine now ?_;rw[aL];refine M3 (xs:=other.map λp=>PV.tup [.str p.1,.int p.2]) (λq δ h'=>h'=h++[.dK (emb ((other.take q).foldl fA (d1 one)))]/\∃x3 x4,δ=[some (sv one),some (sv other),some (.ref h.length),x3,x4]) ?_ ?_ ?_ ?_
 ·left;simp[sv]
 ·exact⟨by simp,_,_,rfl⟩
 ·rintro q x δ h' hx ⟨rfl,x3,x4,rfl⟩;rw[au]at hx;obtain⟨p,hp,rfl⟩:=bc.mp hx;refine⟨_,rfl,?_⟩;have g:(h++[MO.dK (emb ((other.take q).foldl fA (d1 one)))])[h.length]?=some (.dK (emb ((other.take q).foldl fA (d1 one)))):=aK;have hlen:(emb ((other.take q).foldl fA (d1 one))).length<16777216:=by
   unfold emb;rw[af];have:=lE (other.take q) (d1 one) (λacc p=>if(look acc p.1).getD p.2>p.2 then(look acc p.1).getD p.2 else p.2);have e:(List.take q other).length<=other.length:=by rw[eu];omega
   show((other.take q).foldl fA (d1 one)).length<_
   have:((other.take q).foldl fA (d1 one)).length<=(d1 one).length+(other.take q).length:=this;omega
  have e0:(aU (emb ((other.take q).foldl fA (d1 one))) (mz p.1)).getD (PV.int p.2)=.int ((look ((other.take q).foldl fA (d1 one)) p.1).getD p.2):=by
   rw[kZ];cases look ((other.take q).foldl fA (d1 one)) p.1 <;> rfl
  have e1:(other.take (q+1)).foldl fA (d1 one)=fA ((other.take q).foldl fA (d1 one)) p:=by
   rw[fq,hp,List.foldl_append];rfl
  have e2:∀o:MO,(h++[MO.dK (emb ((other.take q).foldl fA (d1 one)))]).set h.length o=h++[o]:=λo=>by
   rw[List.set_append_right _ _ (ak _),Nat.sub_self];rfl
  simp[xF,kO g,BC g,e0,HV g hlen,BW,e1,e2,fA]
 ·rintro δ h' ⟨rfl,x3,x4,rfl⟩;rw[af,ja];refine now ?_;have hn:((d2 one other).map (·.1)).Nodup:=oJ other (d1 one) _ (oJ one [] _ List.nodup_nil);obtain⟨S,eS,pS,aS⟩:=uD hn;have hlen:(d2 one other).length<=one.length+other.length:=by
   have h0:(d2 one other).length<=(d1 one).length+other.length:=lE other (d1 one) (λacc p=>if(look acc p.1).getD p.2>p.2 then(look acc p.1).getD p.2 else p.2);omega
  have g:(h++[MO.dK (emb (d2 one other))])[h.length]?=some (.dK (emb (d2 one other))):=aK;have g1:(h++[MO.dK (emb (d2 one other))]++[MO.vw 0 h.length])[(h++[MO.dK (emb (d2 one other))]).length]?=some (.vw 0 h.length):=aK;have g2:(h++[MO.dK (emb (d2 one other))]++[MO.vw 0 h.length])[h.length]?=some (.dK (emb (d2 one other))):=Ext.app _ _ _ _ g;have ek:(emb (d2 one other)).map (λkv=>PV.tup [kP kv.1,kv.2])=((d2 one other).map row).map tP:=by
   unfold emb;rw[cu,cu];rfl
  have hs:=yX g1 g2 ek (by rw[af];omega) (AB _);rw[eS]at hs;have e3:∀x:PH,(x++[MO.lst ((S.map row).map tP)])[x.length]?=some (.lst ((S.map row).map tP)):=λx=>aK;have look2:∀x,look S x=mx (look other x) (look one x):=λx=>by
   have e5:look S x=look (d2 one other) x:=by
    have nS:(S.map (·.1)).Nodup:=fO aS;cases e6:look S x with
    |some n=>exact(iP hn (pS.mem_iff.mp (qF e6))).symm
    |none=>
     cases e7:look (d2 one other) x with
     |none=>rfl
     |some m=>exact absurd e6 (by rw[iP nS (pS.mem_iff.mpr (qF e7))];simp)
   rw[e5];unfold d2;rw[Ay other _ n2];unfold d1;rw[Ia one _ n1];simp[look]
  show(cA _ _ (h++[MO.dK (emb (d2 one other))])).W _
  rw[kL,sA,iK,sA,iK,PK];simp only[VV,Jc,Jb,Rs.bind_ok,kO g,if_true,Jp g,uV,hs,AC (e3 _),kK];exact k S _ ((Ext.app _ _).trans ((Ext.app _ _).trans (Ext.app _ _))) aS (by rw[pS.length_eq];exact hlen) look2
abbrev MV:Str:="abcdefghijklmnopqrstuvwxyz"
theorem MW:MV.cps.toList.length=26:=by decide +kernel
theorem JK:MV.length=26:=by decide +kernel
theorem MX:∀i:Fin 26,MV.cps.toList[i.val]?=some (97+i.val):=by decide +kernel
theorem MY{x:Str}{c:Nat}:(x++(⟨#[c]⟩:Str)).length=x.length+1:=by
 rw[Str.length_append];rfl
theorem Qj{i:Int}(h0:0<=i)(h1:i<26):atI MV.cps.toList i=some (97+i.toNat):=by
 rw[PN h0 (by rw[MW];exact h1)];exact MX ⟨i.toNat,by omega⟩
theorem app_list(x y:Str):(x++y).cps.toList=x.cps.toList++y.cps.toList:=PySem.W.KT.app_list x y
def pv(p:Str×Int):PV:=.tup [.str p.1,.int p.2]
theorem sR{p q:Str×Int}(h:pv p=pv q):p=q:=by
 obtain⟨a,b⟩:=p;obtain⟨c,d⟩:=q;simp[pv]at h;simp[h]
theorem U6{p:Str×Int}{S:Seen}:pv p∈S.map pv↔p∈S:=by
 constructor
 ·intro h;obtain⟨q,hq,e⟩:=aq.mp h;rw[<-sR e];exact hq
 ·intro h;exact aq.mpr ⟨p,h,rfl⟩
theorem Ib(S:Seen):sv S=.tup (S.map pv):=rfl
theorem FJ(one:Seen)(p:Str×Int)(n1:(one.map (·.1)).Nodup)(hl:one.length<=20)(h:PH)(Q:PV->PH->Prop)
  (k:∀S h',Ext h h'->Asc S->S.length<=21->(∀x,look S x=mx (look [p] x) (look one x))->Q (sv S) h'):(mH [sv one,pv p] h).W Q:=by
 refine eY ?_;simp[sN];exact JJ one [p] n1 (by simp) (by simp;omega) _ _ λS h' hx aS hS lk=>k S h' hx aS (by simp at hS;omega) lk
def lF(hs:List Str)(c:List Int)(x:Str):Option Int:=if x∈hs/\0<c.getD (hs.idxOf x) 0 then some (c.getD (hs.idxOf x) 0) else none
structure cU(hs:List Str)(c:List Int)(S:Seen):Prop where
 asc:Asc S
 lk:∀x,look S x=lF hs c x
theorem cU.len{hs:List Str}{c:List Int}{S:Seen}(a:cU hs c S):S.length<=hs.length:=by
 have nS:=fO a.asc;have:=i7 nS (l₂:=hs) λx hx=>by
  obtain⟨p,hp,rfl⟩:=aq.mp hx;have e:=iP nS hp;rw[a.lk]at e;unfold lF at e;split at e
  ·rename_i z;exact z.1
  ·cases e
 rwa[af]at this
def prs(hs:List Str)(c:List Int)(k:Nat):Option (Str×Int):=if 0<c.getD k 0 then some (hs.getD k "",c.getD k 0) else none
theorem Ic{hs:List Str}{c:List Int}(nd:hs.Nodup){x:Str}{n:Int}:(x,n)∈(av hs.length).filterMap (prs hs c)↔lF hs c x=some n:=by
 rw[List.mem_filterMap];unfold lF prs;constructor
 ·rintro⟨k,hk,e⟩;have hk:=e8.mp hk;split at e
  ·rename_i hp;have e:=bq e;have e1:hs.getD k "" = x:=congrArg Prod.fst e;have e2:c.getD k 0=n:=congrArg Prod.snd e;have e3:hs.getD k "" = hs[k]:=by simp[hk]
   rw[e3]at e1;have hi:hs.idxOf x=k:=by rw[<-e1];exact List.Nodup.idxOf_getElem nd k hk
   have hm:x∈hs:=by rw[<-e1];exact dr hk
   rw[hi,if_pos ⟨hm,hp⟩,e2]
  ·cases e
 ·intro e;split at e
  ·rename_i hp;have hi:=ki.mpr hp.1;refine⟨hs.idxOf x,e8.mpr hi,?_⟩;rw[if_pos hp.2];have e3:hs.getD (hs.idxOf x) "" = x:=by simp[hi]
   rw[e3,bq e]
  ·cases e
theorem MZ{hs:List Str}{c:List Int}(nd:hs.Nodup):(((av hs.length).filterMap (prs hs c)).map (·.1)).Nodup:=by
 have sub:(((av hs.length).filterMap (prs hs c)).map (·.1)).Sublist ((av hs.length).map λk=>hs.getD k ""):=by
  generalize av hs.length=ks
  induction ks with
  |nil=>simp
  |cons k ks ih=>
   rw[dj];unfold prs;split
   ·rename_i e;exact(List.Sublist.cons _ ih)
   ·rename_i b e;split at e
    ·cases e
     rw[a8,a8];exact ih.cons_cons _
    ·cases e
 have e:(av hs.length).map (λk=>hs.getD k "")=hs:=by
  apply List.ext_getElem
  ·simp
  ·intro i h1 h2;simp[h2]
 rw[e]at sub;exact sub.nodup nd
theorem Qk{hs:List Str}(nd:hs.Nodup)(h6:hs.length<=6){c:List Int}(lc:c.length=hs.length){lh l:Nat}{h:PH}(gh:h[lh]?=some (.lst (hs.map PV.str)))(gc:h[l]?=some (.lst (c.map PV.int)))(Q:PV->PH->Prop)(k:∀S h',Ext h h'->cU hs c S->Q (sv S) h'):(xE [.ref lh,.ref l] h).W Q:=by
 refine eY ?_;unfold FD;have hlv:=gI gh;rw[af]at hlv;have hc:=Dh (js:=[none,some 0,some 1]) (tg:=gN 0) (tst:=bQ (aD vGt (aD vAt (mV 2) (mV 0)) (mC (.int 0)))) (elt:=jC (aB (aD vAt (mV 1) (mV 0)) (aB (aD vAt (mV 2) (mV 0)) aI))) (δ:=[some (.ref lh),some (.ref l)]) (h:=h) (h1:=h) (ms:=aB (mCB gF (aB (mV 0) aI)) aI) (j:=(hs.length:Int))
  (λk=>(prs hs c k).map pv) (by simp[hlv]) (by omega) (λi hi=>⟨[some (.int (i:Int)),some (.ref lh),some (.ref l)],by simp[bX],λh' x'=>by
   have hi':i<hs.length:=by omega
   have e1:atI (hs.map PV.str) (i:Int)=some (.str (hs.getD i "")):=jY (by rw[au];simp[hi']);have e2:atI (c.map PV.int) (i:Int)=some (.int (c.getD i 0)):=jY (by rw[au];simp[lc,hi']);have v1:vIx (.ref lh) (.int (i:Int)) h'=.ok (.str (hs.getD i "")) h':=by rw[gW (x' _ _ gh),e1];rfl
   have v2:vIx (.ref l) (.int (i:Int)) h'=.ok (.int (c.getD i 0)) h':=by rw[gW (x' _ _ gc),e2];rfl
   unfold prs;generalize c.getD i 0=cv at v2;generalize hs.getD i "" = hv at v1
   by_cases hp:0<cv
   ·simp[hp,v1,v2,pv]
   ·simp[hp,v2]⟩)
 have e0:(av ((hs.length:Int)).toNat).filterMap (λk=>(prs hs c k).map pv)=(((av hs.length).filterMap (prs hs c)).map row).map tP:=by
  rw[cu,ng];generalize av hs.length=ks
  induction ks with
  |nil=>rfl
  |cons k ks ih=>
   rw[dj,dj,ih];cases prs hs c k <;> rfl
 rw[e0]at hc;have nP:=MZ (c:=c) nd;have hm:=λx n=>Ic (c:=c) nd (x:=x) (n:=n);have lP:((av hs.length).filterMap (prs hs c)).length<=hs.length:=by
  have:=List.length_filterMap_le (prs hs c) (av hs.length);simpa using this
 generalize (av hs.length).filterMap (prs hs c)=P at hc nP hm lP;obtain⟨S,eS,pS,aS⟩:=uD nP;have gp:(h++[MO.lst ((P.map row).map tP)])[h.length]?=some (.lst ((P.map row).map tP)):=aK;have hso:=BD gp (by rw[af];omega) (AB P);rw[eS]at hso;have e3:∀x:PH,(x++[MO.lst ((S.map row).map tP)])[x.length]?=some (.lst ((S.map row).map tP)):=λx=>aK;rw[show List.map some [PV.ref lh,PV.ref l]++cj (2 - [PV.ref lh,PV.ref l].length) none=[some (.ref lh),some (.ref l)] from rfl,kL,sA,iK,sA,iK]
 simp only[hc,Rs.bind_ok,uV,hso,AC (e3 _),kK];refine k S _ ((Ext.app _ _).trans (Ext.app _ _)) ⟨aS,λx=>?_⟩;cases e:lF hs c x with
 |some n=>exact iP (fO aS) (p:=(x,n)) (pS.mem_iff.mpr ((hm x n).mpr e))
 |none=>
  cases e2:look S x with
  |none=>rfl
  |some m=>
   have:=(hm x m).mp (pS.mem_iff.mp (qF e2));rw[e]at this;cases this
theorem JL{hs:List Str}{c:List Int}{w:Nat}(nd:hs.Nodup)(lc:c.length=hs.length)(hw:w<hs.length){n:Int}(hn:c.getD w 0=n)(h0:0<=n){S T:Seen}(a:cU hs c S)(aT:Asc T)(lT:∀x,look T x=mx (look [(hs.getD w "",n+1)] x) (look S x)):cU hs (c.set w (n+1)) T:=by
 refine⟨aT,λx=>?_⟩;rw[lT x,a.lk x];have ew:hs.getD w "" = hs[w]:=by simp[hw]
 rw[ew,fN]
 by_cases e:hs[w]=x
 ·have hi:hs.idxOf x=w:=by rw[<-e];exact List.Nodup.idxOf_getElem nd w hw
  have hm:x∈hs:=by rw[<-e];exact dr hw
  rw[if_pos e];have e2:(c.set w (n+1)).getD w 0=n+1:=by simp[lc,hw]
  have R:lF hs (c.set w (n+1)) x=some (n+1):=by
   unfold lF;rw[hi,e2,if_pos ⟨hm,by omega⟩]
  rw[R];unfold lF;rw[hi,hn]
  by_cases hp:0<n
  ·rw[if_pos ⟨hm,hp⟩];simp only[mx];rw[if_neg (show ¬ (n>n+1) by omega)]
  ·rw[if_neg (λz=>hp z.2)];rfl
 ·rw[if_neg e];have hne:x∈hs->hs.idxOf x≠w:=λhm z=>e (by
   have:=List.getElem_idxOf (ki.mpr hm);simp only[z]at this;exact this)
  unfold lF
  by_cases hm:x∈hs
  ·have e2:(c.set w (n+1)).getD (hs.idxOf x) 0=c.getD (hs.idxOf x) 0:=by
    simp[bg (k0 (hne hm))]
   rw[e2];rfl
  ·rw[if_neg (λz=>hm z.1),if_neg (λz=>hm z.1)];rfl
inductive Ac where
 |settle
 |back (a b:Int)
 |add (n:Int)
def acV:Ac->PV
 |.settle=>.tup [.str "settle"]
 |.back a b=>.tup [.str "back",.int a,.int b]
 |.add n=>.tup [.str "add",.tup [.str "t",.int 1],.int n]
def acS:Ac->Str
 |.settle=>"settle"
 |.back _ _=>"back"
 |.add _=>"add"
def acB:Ac->Bool
 |.settle=>true
 |_=>false
theorem ac0(a:Ac)(h:PH):vIx (acV a) (.int 0) h=.ok (.str (acS a)) h:=by cases a <;> simp[acV,acS]
theorem Y9(a:Ac):decide (acS a="settle")=acB a:=by
 have n1:¬ ("back" : Str)="settle" := by decide +kernel
 have n2:¬ ("add" : Str)="settle" := by decide +kernel
 cases a with
 |settle=>exact decide_eq_true rfl
 |back a b=>exact decide_eq_false n1
 |add n=>exact decide_eq_false n2
structure De where
 nm:Str×Int
 sn:Seen
 ac:Ac
def deV(d:De):PV:=.tup [pv d.nm,sv d.sn,acV d.ac]
theorem de0(d:De)(h:PH):vIx (deV d) (.int 0) h=.ok (pv d.nm) h:=by unfold deV;simp
theorem de1(d:De)(h:PH):vIx (deV d) (.int 1) h=.ok (sv d.sn) h:=by unfold deV;simp
theorem de2(d:De)(h:PH):vIx (deV d) (.int 2) h=.ok (acV d.ac) h:=by unfold deV;simp
theorem pv0(p:Str×Int)(h:PH):vIx (pv p) (.int 0) h=.ok (.str p.1) h:=by unfold pv;simp
theorem pv1(p:Str×Int)(h:PH):vIx (pv p) (.int 1) h=.ok (.int p.2) h:=by unfold pv;simp
theorem FK(d:De):(deV d).pl 39=true:=by
 show[pv d.nm,sv d.sn,acV d.ac].all (PV.pl 38)=true
 have e1:(sv d.sn).pl 38=true:=by
  rw[Ib]
  show(d.sn.map pv).all (PV.pl 37)=true
  rw[List.all_map];exact bz.mpr λy _=>rfl
 have e2:(acV d.ac).pl 38=true:=by cases d.ac <;> rfl
 have e0:(pv d.nm).pl 38=true:=rfl;simp[e0,e1,e2]
theorem Ql(ds:List De):(ds.map deV).all (PV.pl 39)=true:=by
 rw[List.all_map];exact bz.mpr λd _=>FK d
theorem JM(d:De)(h:PH):cQ [deV d] h=.ok (.int d.nm.2) h:=by
 have w:(cQ [deV d] h).W λq h'=>q=.int d.nm.2/\h'=h:=by
  refine eY ?_;simp[kW,de0,pv1]
 obtain⟨q,h',e,rfl,rfl⟩:=gH w;exact e
def gP(d:De):Int:=1+(d.sn.map (·.2)).sum
theorem DH(d:De)(ld:d.sn.length<=1000)(h:PH)(Q:PV->PH->Prop)(k:∀h',Ext h h'->Q (.int (gP d)) h'):(cZ [deV d] h).W Q:=by
 refine eY ?_;unfold qA;have hc:=Ag (m:=aD vAt (mV 0) (mC (.int 1))) (js:=[none]) (tg:=gN 0) (tst:=fK) (elt:=aD vAt (mV 0) (mC (.int 1))) (δ:=[some (deV d)]) (h:=h) (h1:=h) (ys:=d.sn) (emb:=pv)
  (λp=>some (.int p.2)) (by simp[de1,Ib]) (by omega) (λp _=>⟨[some (pv p)],by simp[bX],λh' _=>⟨rfl,by simp[pv1]⟩⟩)
 rw[filterMap_some (λp:Str×Int=>PV.int p.2) d.sn]at hc;have g1:(h++[MO.lst (d.sn.map λp=>PV.int p.2)])[h.length]?=some (.lst ((d.sn.map (·.2)).map PV.int)):=by rw[cu];exact aK
 have x1:Ext h (h++[MO.lst (d.sn.map λp=>PV.int p.2)]):=Ext.app _ _;generalize h++[MO.lst (d.sn.map λp=>PV.int p.2)]=hA at hc g1 x1;have vs:=Df g1;rw[show List.map some [deV d]++cj (1 - [deV d].length) none=[some (deV d)] from rfl]
 simp[hc,vs];exact k _ x1
def mxD(o:Option De)(d:De):Option De:=match o with
 |some b=>if b.nm.2<d.nm.2 then some d else some b
 |none=>some d
def maxD(ds:List De):Option De:=ds.foldl mxD none
theorem xP:∀(ds:List De)(o:Option De),(ds.foldl mxD o=none↔o=none/\ds=[])/\∀d,ds.foldl mxD o=some d->(o=some d\/d∈ds)/\(∀b,o=some b->b.nm.2<=d.nm.2)/\∀b∈ds,b.nm.2<=d.nm.2
 |[],o=>⟨by simp,λd e=>⟨.inl e,λb eb=>by rw[List.foldl_nil]at e;rw[e]at eb;cases eb;exact ff _,λb hb=>by simp at hb⟩⟩
 |x::ds,o=>by
  obtain⟨a,b⟩:=xP ds (mxD o x);have ne:mxD o x≠none:=by unfold mxD;split <;> (try split) <;> simp
  refine⟨⟨λe=>absurd (a.mp e).1 ne,λe=>by simp at e⟩,λd e=>?_⟩;obtain⟨h1,h2,h3⟩:=b d e;have le:∀y,mxD o x=some y->x.nm.2<=y.nm.2/\(∀b,o=some b->b.nm.2<=y.nm.2)/\(o=some y\/y=x):=λy ey=>by
   unfold mxD at ey;cases o with
   |none=>cases ey;exact⟨ff _,λb eb=>(by cases eb),.inr rfl⟩
   |some b=>
    simp only at ey;split at ey
    ·rename_i hlt;cases ey
     exact⟨ff _,λb' eb=>by cases eb;omega,.inr rfl⟩
    ·rename_i hge;cases ey
     exact⟨by omega,λb' eb=>by cases eb;exact ff _,.inl rfl⟩
  obtain⟨y,ey⟩:=Option.ne_none_iff_exists'.mp ne;obtain⟨l1,l2,l3⟩:=le y ey;have ly:=h2 y ey;refine⟨?_,λb eb=>kz (l2 b eb) ly,λb hb=>?_⟩
  ·rcases h1 with h1|h1
   ·rw[ey]at h1;cases h1
    rcases l3 with l3|l3
    ·exact .inl l3
    ·exact .inr (by rw[l3];exact ai)
   ·exact .inr (aj _ h1)
  ·rcases ba.mp hb with rfl|hb
   ·exact kz l1 ly
   ·exact h3 b hb
theorem AD{ds:List De}:maxD ds=none↔ds=[]:=by
 have:=(xP ds none).1;unfold maxD;simpa using this
theorem sS{ds:List De}{d:De}(h:maxD ds=some d):d∈ds/\∀b∈ds,b.nm.2<=d.nm.2:=by
 obtain⟨a,_,c⟩:=(xP ds none).2 d h;exact⟨a.resolve_left (by simp),c⟩
theorem DI{n:Nat}{h:PH}{xs:List PV}(g:h[n]?=some (.lst xs)):∀(ds:List De)(o:Option De),dR cQ n xs (ds.map deV) (o.map λd=>(deV d,d.nm.2)) h=.ok (match ds.foldl mxD o with|some d=>deV d|none=>.non) h
 |[],o=>by
  have e3:nE n xs h=true:=cH g h (Ext.refl h);unfold dR;rw[List.map_nil];simp only[e3,if_true,List.foldl_nil];cases o <;> rfl
 |d::ds,o=>by
  have e3:nE n xs h=true:=cH g h (Ext.refl h);rw[a8];unfold dR;rw[if_pos e3,JM,Rs.bind_ok];have e4:DA (o.map λd=>(deV d,d.nm.2)) (deV d) d.nm.2=(mxD o d).map λd=>(deV d,d.nm.2):=by
   cases o with
   |none=>rfl
   |some b=>
    show(if b.nm.2<d.nm.2 then _ else _)=_
    unfold mxD;simp only;split <;> rfl
  simp only[e4];rw[DI g ds (mxD o d)];rfl
theorem BX(x:Str):∀ds:List De,ds.filterMap (λd=>if d.nm.1=x then some (deV d) else none)=(ds.filter λd=>decide (d.nm.1=x)).map deV
 |[]=>rfl
 |y::rs=>by
  rw[dj,fi]
  by_cases e:y.nm.1=x
  ·simp[e,BX x rs]
  ·simp[e,BX x rs]
def qG(o:Option De):PV:=match o with|some d=>deV d|none=>.non
theorem Ie(x:Str){ds:List De}(l1:ds.length<=1000){l:Nat}{h:PH}(g:h[l]?=some (.lst (ds.map deV)))(Q:PV->PH->Prop)(k:∀h',Ext h h'->Q (qG (maxD (ds.filter λd=>decide (d.nm.1=x)))) h'):(iM [.str x,.ref l] h).W Q:=by
 refine eY ?_;unfold sM;have hc:=cX (m:=mV 1) (n:=l) (js:=[none,some 0]) (tg:=gN 0) (tst:=bQ (aD vEq (aD vAt (aD vAt (mV 0) (mC (.int 0))) (mC (.int 0))) (mV 1))) (elt:=mV 0) (δ:=[some (.str x),some (.ref l)]) (h:=h) (h1:=h) (ys:=ds) (emb:=deV)
  (λd=>if d.nm.1=x then some (deV d) else none) (by simp) g (by omega) (λd _=>⟨[some (deV d),some (.str x)],by simp[bX],λh' _=>by
   by_cases e:d.nm.1=x
   ·simp[de0,pv0,e]
   ·simp[de0,pv0,e]⟩)
 have em:=BX x ds;rw[em]at hc;generalize ds.filter (λd=>decide (d.nm.1=x))=fs at hc k;have g1:(h++[MO.lst (fs.map deV)])[h.length]?=some (.lst (fs.map deV)):=aK;have x1:Ext h (h++[MO.lst (fs.map deV)]):=Ext.app _ _;generalize h++[MO.lst (fs.map deV)]=hA at hc g1 x1;have e1:aN hA h.length=some (fs.map deV):=by simp[aN,g1]
 have vm:Av cQ (.ref h.length) hA=.ok (qG (maxD fs)) hA:=by
  unfold Av;simp only[e1];exact DI g1 fs none
 rw[show List.map some [PV.str x,PV.ref l]++cj (2 - [PV.str x,PV.ref l].length) none=[some (.str x),some (.ref l)] from rfl,kL]
 unfold HX;rw[hc,Rs.bind_ok,vm,kK];exact k _ x1
structure Row where
 d:De
 c:List Int
 r:Nat
def rwV(z:Row):PV:=.tup [deV z.d,.ref z.r]
structure fB(hs:List Str)(z:Row):Prop where
 len:z.c.length=hs.length
 ex:∃w c0,w<hs.length/\c0.length=hs.length/\0<=c0.getD w 0/\z.c=c0.set w (c0.getD w 0+1)/\z.d.nm=(hs.getD w "",c0.getD w 0+1)/\cU hs c0 z.d.sn
def RAt(h:PH)(l:Nat)(R:List Row):Prop:=h[l]?=some (.lst (R.map rwV))/\∀z∈R,h[z.r]?=some (.lst (z.c.map PV.int))
theorem RAt.ext{h h':PH}{l:Nat}{R:List Row}(t:RAt h l R)(x:Ext h h'):RAt h' l R:=⟨x _ _ t.1,λz hz=>x _ _ (t.2 z hz)⟩
def Inc(R:List Row):Prop:=R.Pairwise λa b=>a.d.nm.1=b.d.nm.1->a.d.nm.2<b.d.nm.2
theorem Qm{F:List De}(pw:F.Pairwise λa b=>a.nm.2<b.nm.2){d e:De}(hd:d∈F)(he:F.getLast?=some e):d=e\/d.nm.2<e.nm.2:=by
 obtain⟨F',rfl⟩:=List.getLast?_eq_some_iff.mp he;rcases bh.mp hd with h|h
 ·exact .inr ((ik.mp pw).2.2 d h e (by simp))
 ·simp at h;exact .inl h
theorem last_eq{R:List Row}(inc:Inc R){T:List De}(mem:∀d,d∈T↔d∈R.map (·.d))(p:De->Bool)(x:Str)(hp:∀d,p d=true->d.nm.1=x):maxD (T.filter p)=((R.map (·.d)).filter p).getLast?:=by
 have pw:((R.map (·.d)).filter p).Pairwise λa b=>a.nm.2<b.nm.2:=by
  rw[List.pairwise_filter,dt];exact inc.imp λ{a b} h ha hb=>h ((hp _ ha).trans (hp _ hb).symm)
 have mem':∀d,d∈T.filter p↔d∈(R.map (·.d)).filter p:=λd=>by rw[ay,ay,mem]
 generalize (R.map (·.d)).filter p=F at pw mem';generalize T.filter p=G at mem';cases e:maxD G with
 |none=>
  have eG:=AD.mp e;subst eG;have:F=[]:=List.eq_nil_iff_forall_not_mem.mpr λd hd=>by have:=(mem' d).mpr hd;simp at this
  rw[this];rfl
 |some d=>
  obtain⟨h1,h2⟩:=sS e;have hF:=(mem' d).mp h1;cases e2:F.getLast? with
  |none=>
   rw[List.getLast?_eq_none_iff.mp e2]at hF;simp at hF
  |some b=>
   rcases Qm pw hF e2 with z|z
   ·rw[z]
   ·have:=h2 b ((mem' b).mpr (n0 e2));omega
def hB(x:Str)(d:De):Bool:=decide (d.nm.1=x)
def N0(hs:List Str)(R:List Row)(x:Str)(v:PV):Prop:=match(R.filter λz=>hB x z.d).getLast? with
 |none=>v=.tup []
 |some z=>∃S,v=sv S/\cU hs z.c S
theorem N1{hs:List Str}(nd:hs.Nodup)(h6:hs.length<=6){R:List Row}(inc:Inc R)(ok:∀z∈R,fB hs z){T:List De}(lT:T.length<=1000)(mem:∀d,d∈T↔d∈R.map (·.d))(x:Str){l:Nat}{h:PH}(g:h[l]?=some (.lst (T.map deV)))(Q:PV->PH->Prop)(k:∀v h',Ext h h'->N0 hs R x v->Q v h'):(uY [.str x,.ref l] h).W Q:=by
 refine eY ?_;unfold BR;rw[aL];simp;refine Ie x lT g _ λh1 x1=>?_;have le:=last_eq inc mem (hB x) x (λd hd=>by simpa[hB] using hd)
 have le:maxD (T.filter λd=>decide (d.nm.1=x))=((R.map (·.d)).filter (hB x)).getLast?:=le;rw[le];have ef:((R.map (·.d)).filter (hB x)).getLast?=((R.filter λz=>hB x z.d).getLast?).map (·.d):=by
  rw[List.filter_map,List.getLast?_map];rfl
 rw[ef];unfold N0 at k;cases e:(R.filter λz=>hB x z.d).getLast? with
 |none=>
  rw[e]at k;refine now ?_;simp[qG];exact k _ _ x1 rfl
 |some z=>
  rw[e]at k;have hz:=(ay.mp (n0 e)).1;obtain⟨lz,w,c0,hw,lc,h0,ec,en,sn⟩:=ok z hz;refine now ?_;have nn:∀h,vIs (deV z.d) .non h=.ok (.bl false) h:=λh=>by unfold deV;simp
  simp[qG,nn,de0,de1];refine FJ z.d.sn z.d.nm (fO sn.asc) (by have:=sn.len;omega) _ _ λS h2 x2 aS lS lk=>?_;refine k _ _ (x1.trans x2) ⟨S,rfl,?_⟩;rw[ec];refine JL nd lc hw rfl h0 sn aS λy=>?_;rw[lk y,en]
theorem BY{δ:Ev}{h h1:PH}{js:List (Option Nat)}{tg:Mg}{elt:Me}{g:PH->Bool}{mi:Mi}{xs:List PV}{Q:PV->PH->Prop}(P:Nat->PV->Prop)(e:mi δ h=.ok ⟨xs,g⟩ h1)(hg:∀h,Ext h1 h->g h=true)(hz:xs.length<=16777216)
  (step:∀i x,xs[i]?=some x->∃δ1,tg x (bX js δ)=some δ1/\∀h,Ext h1 h->∀Q:PV->PH->Prop,(∀v h',Ext h h'->P i v->Q v h')->(elt δ1 h).W Q)
  (k:∀l h'(vs:List PV),Ext h1 h'->h1.length<=l->vs.length=xs.length->h'[l]?=some (.lst vs)->(∀i v,vs[i]?=some v->P i v)->Q (.ref l) h'):(bB js mi tg fK elt δ h).W Q:=by
 unfold bB;rw[e,Rs.bind_ok];refine pO (λi h'=>Ext h1 h'/\∃vs:List PV,vs.length=i/\h'[h1.length]?=some (.lst vs)/\∀i v,vs[i]?=some v->P i v) xs 0 _ ⟨Ext.app _ _,[],rfl,by simp,λi v hv=>by simp at hv⟩ (λi x h' _ hx hi=>?_) (λh' hi=>?_)
 ·obtain⟨x1,vs,lv,g1,ov⟩:=hi;have hx:xs[i]?=some x:=by simpa using hx
  have hil:=(ab.mp hx).1;obtain⟨δ1,ht,hs⟩:=step i x hx;refine⟨hg _ x1,δ1,ht,?_⟩;have hY:fK δ1 h'=.ok true h':=rfl;rw[hY,kK,if_pos rfl];refine hs h' x1 _ λv h2 x2 pv=>?_;refine⟨_,x2 _ _ g1,by omega,(x1.trans x2).setN (ak _),vs++[v],by simp[lv],eC (x2 _ _ g1),λj w hw=>?_⟩;rcases Nat.lt_trichotomy j vs.length with z|z|z
  ·rw[d4 z]at hw;exact ov j w hw
  ·rw[z,ft (ak _),Nat.sub_self]at hw;cases hw
   rw[z,lv];exact pv
  ·rw[ft (by omega)]at hw;have:=(ab.mp hw).1;simp at this;omega
 ·obtain⟨x1,vs,lv,g1,ov⟩:=hi;rw[Nat.zero_add]at lv;exact⟨hg _ x1,k _ _ vs x1 (ak _) lv g1 ov⟩
def stV(o:Option De):Int:=match o with|some d=>gP d|none=>0
theorem AE:∀ds:List De,ds.filterMap (λd=>if acB d.ac=true then some (deV d) else none)=(ds.filter λd=>acB d.ac).map deV
 |[]=>rfl
 |y::rs=>by
  rw[dj,fi];cases e:acB y.ac <;> simp[AE rs]
theorem N2{α:Type}{hs:List α}{vs:List PV}(f:α->PV)(lv:vs.length=hs.length)(ov:∀(i:Nat)(v:PV),vs[i]?=some v->∃x,hs[i]?=some x/\v=f x):vs=hs.map f:=by
 apply i3;intro i;rw[au];cases e:vs[i]? with
 |none=>
  have:hs.length<=i:=by rw[<-lv];exact j5.mp e
  rw[m9 this];rfl
 |some v=>
  obtain⟨x,hx,rfl⟩:=ov i v e;rw[hx];rfl
theorem qH{hs:List Str}(h0:hs≠[])(h6:hs.length<=6){T:List De}(lT:T.length<=1000)(ls:∀d∈T,d.sn.length<=1000){lh l:Nat}{h:PH}(gh:h[lh]?=some (.lst (hs.map PV.str)))(g:h[l]?=some (.lst (T.map deV)))(Q:PV->PH->Prop)
  (k:∀h',Ext h h'->Q (.int (jI (hs.map λx=>stV (maxD ((T.filter λd=>acB d.ac).filter λd=>decide (d.nm.1=x)))))) h'):(jK [.ref lh,.ref l] h).W Q:=by
 refine eY ?_;unfold BQ;have hc:=cX (m:=mV 1) (n:=l) (js:=[none]) (tg:=gN 0) (tst:=bQ (aD vEq (aD vAt (aD vAt (mV 0) (mC (.int 2))) (mC (.int 0))) (mC (.str "settle")))) (elt:=mV 0) (δ:=[some (.ref lh),some (.ref l),none,none]) (h:=h) (h1:=h) (ys:=T) (emb:=deV)
  (λd=>if acB d.ac=true then some (deV d) else none) (by simp) g (by omega) (λd _=>⟨[some (deV d)],by simp[bX],λh' _=>by
   have e:=Y9 d.ac;cases eb:acB d.ac with
   |true=>
    rw[eb]at e;have e:acS d.ac="settle" := of_decide_eq_true e;simp[de2,ac0,e]
   |false=>
    rw[eb]at e;have e:¬ acS d.ac="settle" := of_decide_eq_false e;simp[de2,ac0,e]⟩)
 rw[AE T]at hc;have lst:(T.filter λd=>acB d.ac).length<=1000:=df (fh _ _) lT;have lss:∀d∈T.filter λd=>acB d.ac,d.sn.length<=1000:=λd hd=>ls d (ay.mp hd).1;generalize (T.filter λd=>acB d.ac)=Z at hc k lst lss;have x1:Ext h (h++[MO.lst (Z.map deV)]):=Ext.app _ _;have g1:(h++[MO.lst (Z.map deV)])[h.length]?=some (.lst (Z.map deV)):=aK;rw[aL,show List.map some [PV.ref lh,PV.ref l]++cj (4 - [PV.ref lh,PV.ref l].length) none=[some (.ref lh),some (.ref l),none,none] from rfl]
 simp only[pL,hc,kK,my,List.set_cons_zero];generalize h++[MO.lst (Z.map deV)]=hA at hc g1 x1;generalize h.length=lz at g1;clear hc;refine now ?_;rw[aL];simp only[pL];have gh1:=x1 _ _ gh;refine BY (h1:=hA) (xs:=hs.map PV.str) (g:=nE lh (hs.map PV.str)) (λi v=>∃x,hs[i]?=some x/\v=qG (maxD (Z.filter λd=>decide (d.nm.1=x)))) (cW (by simp) gh1) (cH gh1) (by rw[af];omega) (λi x hx=>?_) λl3 hC vs xC bC lv gC ov=>?_
 ·rw[au]at hx;obtain⟨y,hy,rfl⟩:=bc.mp hx;refine⟨[some (.str y),some (.ref lz)],by simp[bX],λh2 x2 Q k2=>?_⟩;simp;exact Ie y lst (x2 _ _ g1) _ λh3 x3=>k2 _ h3 x3 ⟨y,hy,rfl⟩
 rw[af]at lv;have ev:=N2 _ lv ov;subst ev;simp only[my,List.set_cons_zero];clear ov lv;refine now ?_;simp only[kL,sA,iK,Bu];refine BY (h1:=hC) (xs:=hs.map λx=>qG (maxD (Z.filter λd=>decide (d.nm.1=x)))) (g:=nE l3 _) (λi v=>∃x,hs[i]?=some x/\v=.int (stV (maxD (Z.filter λd=>decide (d.nm.1=x))))) (cW (by simp) gC) (cH gC) (by rw[af];omega) (λi x hx=>?_) λl4 hD vs xD bD lv gD ov=>?_
 ·rw[au]at hx;obtain⟨y,hy,rfl⟩:=bc.mp hx;refine⟨[some (qG (maxD (Z.filter λd=>decide (d.nm.1=y))))],by simp[bX],λh2 x2 Q k2=>?_⟩;cases e:maxD (Z.filter λd=>decide (d.nm.1=y)) with
  |none=>
   simp[qG];exact k2 _ h2 (Ext.refl _) ⟨y,hy,by rw[e];rfl⟩
  |some d=>
   have hd:=(ay.mp (sS e).1).1;have nn:∀h,vIs (deV d) .non h=.ok (.bl false) h:=λh=>by unfold deV;simp
   simp[qG,nn];exact DH d (lss d hd) h2 _ λh3 x3=>k2 _ h3 x3 ⟨y,hy,by rw[e];rfl⟩
 rw[af]at lv;have ev:=N2 _ lv ov;subst ev;have gD':hD[l4]?=some (.lst ((hs.map λx=>stV (maxD (Z.filter λd=>decide (d.nm.1=x)))).map PV.int)):=by rw[cu];exact gD
 cases hs with
 |nil=>exact absurd rfl h0
 |cons a hs=>
  have vm:=Jy (a:=stV (maxD (Z.filter λd=>decide (d.nm.1=a)))) (ns:=hs.map λx=>stV (maxD (Z.filter λd=>decide (d.nm.1=x)))) (n:=l4) (h:=hD) gD';simp only[uV,Rs.bind_ok,kK,vm];exact k _ ((x1.trans xC).trans xD)
theorem Ig{n d k:Nat}(h:k<=n):HT.sIx n d (some (k:Int))=k:=by
 show(if(k:Int)<0 then((k:Int)+(n:Int)).toNat else min (k:Int).toNat n)=k
 rw[if_neg (by omega)];omega
theorem N3{α:Type}{xs:List α}{n:Nat}(h:n<=xs.length):jW xs none (some (n:Int))=xs.take n:=by
 unfold jW;rw[Ig h]
 show(xs.drop 0).take (n-0)=_
 simp
theorem N4{α:Type}{xs:List α}{n:Nat}(h:n<=xs.length):jW xs (some (n:Int)) none=xs.drop n:=by
 unfold jW;rw[Ig h]
 show(xs.drop n).take (xs.length-n)=_
 rw[l0 (by rw[List.length_drop];omega)]
theorem N5:∀ns:List Int,(∀n∈ns,0<=n)->0<=ns.sum
 |[],_=>by simp
 |n::ns,h=>by
  have h1:=h n ai;have h2:=N5 ns λm hm=>h m (aj _ hm);rw[o5];omega
theorem cU.nn{hs:List Str}{c:List Int}{S:Seen}(a:cU hs c S):0<=(S.map (·.2)).sum:=by
 refine N5 _ λn hn=>?_;obtain⟨p,hp,rfl⟩:=aq.mp hn;have e:=iP (fO a.asc) hp;rw[a.lk]at e;unfold lF at e;split at e
 ·rename_i z;have:=bq e;omega
 ·cases e
theorem fB.sn{hs:List Str}{z:Row}(o:fB hs z):z.d.sn.length<=hs.length/\0<=gP z.d:=by
 obtain⟨w,c0,_,_,_,_,_,s⟩:=o.ex;have:=s.nn;exact⟨s.len,by unfold gP;omega⟩
theorem N6{h:PH}{n:Nat}{xs:List PV}(e:h[n]?=some (.lst xs)):D8 [.ref n] h=.ok (.ref h.length) (h++[.lst xs]):=by simp[D8,aN,e]
theorem Sg{α:Type}{xs:List α}(nd:xs.Nodup){i j:Nat}{a:α}(h1:xs[i]?=some a)(h2:xs[j]?=some a):i=j:=by
 obtain⟨l1,e1⟩:=ab.mp h1;obtain⟨l2,e2⟩:=ab.mp h2;have pw:=f7.mp nd;rcases Nat.lt_trichotomy i j with h|h|h
 ·exact absurd (e1.trans e2.symm) (pw i j l1 l2 h)
 ·exact h
 ·exact absurd (e2.trans e1.symm) (pw j i l2 l1 h)
theorem qI{δ:Ev}{h h1:PH}{js:List (Option Nat)}{tg:Mg}{elt:Me}{g:PH->Bool}{α:Type}{mi:Mi}{tst:Ev->PH->Rs Bool}{ys:List α}{emb:α->PV}{Q:PV->PH->Prop}(p:α->Bool)(f:α->PV)(e:mi δ h=.ok ⟨ys.map emb,g⟩ h1)(hg:∀h,Ext h1 h->g h=true)(hz:ys.length<=16777216)
  (step:∀y∈ys,∃δ1,tg (emb y) (bX js δ)=some δ1/\(∀h,Ext h1 h->∀Q:Bool->PH->Prop,(∀h',Ext h h'->Q (p y) h')->(tst δ1 h).W Q)/\∀h,Ext h1 h->elt δ1 h=.ok (f y) h)
  (k:∀l h',Ext h1 h'->h1.length<=l->h'[l]?=some (.lst ((ys.filter p).map f))->Q (.ref l) h'):(bB js mi tg tst elt δ h).W Q:=by
 unfold bB;rw[e,Rs.bind_ok];refine pO (λi h'=>Ext h1 h'/\h'[h1.length]?=some (.lst (((ys.take i).filter p).map f))) (ys.map emb) 0 _ ⟨Ext.app _ _,by simp⟩ (λi x h' _ hx hi=>?_) (λh' hi=>?_)
 ·obtain⟨x1,g1⟩:=hi;have hx:(ys.map emb)[i]?=some x:=by simpa using hx
  rw[au]at hx;obtain⟨y,hy,rfl⟩:=bc.mp hx;have hil:=(ab.mp hy).1;obtain⟨δ1,ht,hs,he⟩:=step y (cq hy);have htk:ys.take (i+1)=ys.take i++[y]:=by rw[fq,hy];rfl
  refine⟨hg _ x1,δ1,ht,?_⟩;refine hs h' x1 _ λh2 x2=>?_;cases ep:p y with
  |true=>
   rw[if_pos rfl,he h2 (x1.trans x2),kK];refine⟨_,x2 _ _ g1,?_,(x1.trans x2).setN (ak _),?_⟩
   ·have:=fh p (ys.take i);rw[eu]at this;rw[af];omega
   ·rw[eC (x2 _ _ g1),htk,List.filter_append,c7];simp[ep]
  |false=>
   rw[if_neg (by simp)];refine⟨x1.trans x2,?_⟩;rw[x2 _ _ g1,htk,List.filter_append];simp[ep]
 ·obtain⟨x1,g1⟩:=hi;refine⟨hg _ x1,k _ _ x1 (ak _) ?_⟩;rw[Nat.zero_add,af,ja]at g1;exact g1
theorem Qn{h hX:PH}{o:MO}(x:Ext h hX):Ext h (hX.set h.length o):=λn o' e=>by
 have hn:=(ab.mp e).1;rw[bg (by omega)];exact x n o' e
inductive Kd where
 |settle
 |back (f l:Int)
 |other
deriving DecidableEq
abbrev HD:=Int×Kd
def reach(b:HD)(n:Int):Bool:=match b.2 with
 |.back f l=>decide (f<=n/\n<=l)
 |_=>false
def hit(n:Int)(B:List HD):Option HD:=B.find? λb=>reach b n
def jN:List HD->List HD->List (HD×HD)
 |[],_=>[]
 |d::L,B=>match d.2,hit d.1 B with
  |.settle,_=>jN L []
  |_,some b=>(d,b)::jN L B
  |.back _ _,none=>jN L (B++[d])
  |.other,none=>jN L B
def yZ:List HD->List HD->List HD
 |[],B=>B
 |d::L,B=>match d.2,hit d.1 B with
  |.settle,_=>yZ L []
  |_,some _=>yZ L B
  |.back _ _,none=>yZ L (B++[d])
  |.other,none=>yZ L B
theorem mJ(d:HD)(L B:List HD):jN (d::L) B=match d.2,hit d.1 B with
  |.settle,_=>jN L []
  |_,some b=>(d,b)::jN L B
  |.back _ _,none=>jN L (B++[d])
  |.other,none=>jN L B:=rfl
theorem JN(d:HD)(L B:List HD):yZ (d::L) B=match d.2,hit d.1 B with
  |.settle,_=>yZ L []
  |_,some _=>yZ L B
  |.back _ _,none=>yZ L (B++[d])
  |.other,none=>yZ L B:=rfl
theorem DJ:∀(A P B:List HD),jN (A++P) B=jN A B++jN P (yZ A B)
 |[],_,_=>rfl
 |d::A,P,B=>by
  rw[List.cons_append,mJ,mJ,JN];split <;> simp[DJ A P]
theorem DK:∀{F B:List HD}{x:HD×HD},x∈jN F B->x.1∈F/\x.1.2≠.settle
 |[],_,_,h=>nomatch h
 |d::L,B,x,h=>by
  have up:∀{B'},x∈jN L B'->x.1∈d::L/\x.1.2≠.settle:=λh=>let ⟨a,b⟩:=DK h;⟨aj _ a,b⟩;rw[mJ]at h;split at h
  ·exact up h
  ·rename_i e1 e2;rcases ba.mp h with rfl|h
   ·exact⟨ai,λz=>by simp_all⟩
   ·exact up h
  ·exact up h
  ·exact up h
abbrev DL(F:List HD):Prop:=F.Pairwise (λa b=>b.1<a.1)
def tkH(F B:List HD)(n:Int):Prop:=∃x∈jN F B,x.1.1=n
theorem AF{A P:List HD}{c:Int}{B:List HD}(hf:DL (A++(c,.settle)::P)){n:Int}(hn:n<=c):tkH (A++(c,.settle)::P) B n↔tkH P [] n:=by
 have e:jN (A++(c,.settle)::P) B=jN A B++jN P []:=by
  rw[DJ]
  congr 1
 unfold tkH;rw[e];constructor
 ·rintro⟨x,hx,rfl⟩;rcases bh.mp hx with hx|hx
  ·have:=(ik.mp hf).2.2 _ (DK hx).1 _ ai;simp only at this;omega
  ·exact⟨x,hx,rfl⟩
 ·rintro⟨x,hx,rfl⟩;exact⟨x,ao _ hx,rfl⟩
section
variable{α:Type}[DecidableEq α]
def ofH(h:α)(L:List (α×HD)):List HD:=(L.filter λx=>decide (x.1=h)).map (·.2)
def run:List (α×HD)->(α->List HD)->List (α×HD×HD)
 |[],_=>[]
 |d::L,B=>match d.2.2,hit d.2.1 (B d.1) with
  |.settle,_=>run L λh=>if h=d.1 then[] else B h
  |_,some b=>(d.1,d.2,b)::run L B
  |.back _ _,none=>run L λh=>if h=d.1 then B h++[d.2] else B h
  |.other,none=>run L B
theorem xQ(d:α×HD)(L:List (α×HD))(B:α->List HD):run (d::L) B=match d.2.2,hit d.2.1 (B d.1) with
  |.settle,_=>run L λh=>if h=d.1 then[] else B h
  |_,some b=>(d.1,d.2,b)::run L B
  |.back _ _,none=>run L λh=>if h=d.1 then B h++[d.2] else B h
  |.other,none=>run L B:=rfl
theorem jO(h:α):∀(L:List (α×HD))(B:α->List HD),((run L B).filter λx=>decide (x.1=h)).map (·.2)=jN (ofH h L) (B h)
 |[],_=>rfl
 |d::L,B=>by
  unfold ofH
  by_cases e:d.1=h
  ·subst e;rw[fi,if_pos (decide_eq_true rfl),a8];rw[xQ,mJ];split
   ·rw[jO d.1 L];simp[ofH]
   ·rename_i b e1 e2;rw[fi,if_pos (decide_eq_true rfl),a8,jO d.1 L];rfl
   ·rename_i e1 e2;rw[jO d.1 L];simp[ofH]
   ·rename_i e1 e2;rw[jO d.1 L];simp[ofH]
  ·rw[fi,if_neg (by simpa using e)]
   have e':h≠d.1:=λz=>e z.symm;rw[xQ];split
   ·rw[jO h L];simp[ofH,e']
   ·rw[fi,if_neg (by simpa using e),jO h L];rfl
   ·rw[jO h L];simp[ofH,e']
   ·rw[jO h L];rfl
def Tk(L:List (α×HD))(h:α)(n:Int):Prop:=∃x∈run L (λ_=>[]),x.1=h/\x.2.1.1=n
theorem N7{L:List (α×HD)}{h:α}{n:Int}:Tk L h n↔tkH (ofH h L) [] n:=by
 unfold Tk tkH;rw[<-jO h L λ_=>[]];constructor
 ·rintro⟨x,hx,rfl,rfl⟩;exact⟨x.2,aq.mpr ⟨x,ay.mpr ⟨hx,by simp⟩,rfl⟩,rfl⟩
 ·rintro⟨y,hy,rfl⟩;obtain⟨x,hx,rfl⟩:=aq.mp hy;obtain⟨h1,h2⟩:=ay.mp hx;exact⟨x,h1,by simpa using h2,rfl⟩
end
structure Dd where
 nm:Str×Int
 seen:Seen
 kd:Kd
 act:List PV
def dP(d:Dd):PV:=.tup [pv d.nm,sv d.seen,.tup d.act]
def word:Kd->Str
 |.settle=>"settle"
 |.back _ _=>"back"
 |.other=>"other"
def WfA:Kd->List PV->Prop
 |.settle,a=>a=[.str "settle"]
 |.back f l,a=>a=[.str "back",.int f,.int l]
 |.other,a=>∃w r,a=.str w::r/\w≠"settle" /\ w≠"back"
structure Wf(d:Dd):Prop where
 len:d.seen.length<=100
 act:WfA d.kd d.act
 pl:d.act.all (PV.pl 37)=true
def hdD(d:Dd):HD:=(d.nm.2,d.kd)
def tri(d:Dd):Str×HD:=(d.nm.1,hdD d)
def tot(S:Seen):Int:=(S.map (·.2)).sum
def kyL(d:Dd):List Key:=[.inl (1+tot d.seen),.inr d.nm.1,.inl d.nm.2]
theorem dP0{d:Dd}{h:PH}:vIx (dP d) (.int 0) h=.ok (pv d.nm) h:=by unfold dP;simp
theorem dP1{d:Dd}{h:PH}:vIx (dP d) (.int 1) h=.ok (sv d.seen) h:=by unfold dP;simp
theorem dP2{d:Dd}{h:PH}:vIx (dP d) (.int 2) h=.ok (.tup d.act) h:=by unfold dP;simp
theorem Sh{p:Str×Int}:(PV.tup [.str p.1,.int p.2]).ky 6=true:=rfl
theorem mK(d:Dd)(hS:d.seen.length<=100)(h:PH)(Q:PV->PH->Prop)(k:∀h',Ext h h'->Q (.int (1+tot d.seen)) h'):(cZ [dP d] h).W Q:=by
 refine eY ?_;have hc:=Ag (js:=[none]) (tg:=gN 0) (tst:=fK) (elt:=aD vAt (mV 0) (mC (.int 1))) (m:=aD vAt (mV 0) (mC (.int 1))) (δ:=[some (dP d)]) (h:=h) (h1:=h) (ys:=d.seen) (emb:=pv)
  (λq=>some (.int q.2)) (by simp[dP1,Ib]) (by omega) (λq hq=>⟨_,rfl,λh3 _=>⟨rfl,by simp[bX,pv1]⟩⟩)
 have es:d.seen.filterMap (λq=>some (PV.int q.2))=(d.seen.map (·.2)).map PV.int:=by rw[filterMap_some,cu];rfl
 rw[es]at hc;have gs:(h++[MO.lst ((d.seen.map (·.2)).map PV.int)])[h.length]?=some (.lst ((d.seen.map (·.2)).map PV.int)):=aK;change (qA [some (dP d)] h).W _;unfold qA;rw[kL,PJ,VW,Rs.bind_ok,sA,iK,hc];simp only[Rs.bind_ok,uV,Df gs,Ji,kK];exact k _ (Ext.app _ _)
theorem Qo(d:Dd)(hS:d.seen.length<=100)(h:PH)(Q:PV->PH->Prop)(k:∀h',Ext h h'->Q (tP (kyL d)) h'):(BS [dP d] h).W Q:=by
 refine eY ?_;unfold FG;rw[aL];simp[dP0];refine⟨[some (dP d),some (.str d.nm.1),some (.int d.nm.2)],by simp[pv],?_⟩;refine now ?_;simp;refine mK d hS _ _ λh' hx=>?_
 try simp
 exact k h' hx
def ent(d:Dd):PV×PV:=(pv d.nm,dP d)
theorem DM(p:Str×Int):∀es:List Dd,(aU (es.map ent) (pv p)).isSome=true↔p∈es.map (·.nm)
 |[]=>by simp[aU]
 |d::es=>by
  rw[a8,a8,ba]
  show(aU ((pv d.nm,dP d)::es.map ent) (pv p)).isSome=true↔_
  unfold aU
  by_cases e:d.nm=p
  ·rw[if_pos (by rw[e])];simp[e]
  ·rw[if_neg (λz=>e (sR z)),DM p es];constructor
   ·exact .inr
   ·rintro(z|z)
    ·exact(e z.symm).elim
    ·exact z
theorem Qp{es:List Dd}{d:Dd}(hu:∀x∈es,x.nm=d.nm->x=d):dI (es.map ent) (pv d.nm) (dP d)=(if d.nm∈es.map (·.nm) then es else es++[d]).map ent:=by
 unfold dI;have hl:=DM d.nm es
 by_cases e:d.nm∈es.map (·.nm)
 ·rw[if_pos e,if_pos (hl.mpr e),cu];apply d8;intro x hx
  show(if(ent x).1=pv d.nm then((ent x).1,dP d) else ent x)=ent x
  by_cases z:(ent x).1=pv d.nm
  ·rw[if_pos z];have:=hu x hx (sR z);subst this;rfl
  ·rw[if_neg z]
 ·rw[if_neg e,if_neg (λz=>e (hl.mp z)),c7];rfl
theorem Qq(xs:List Dd):nH (xs.map kyL)=true:=by
 cases xs with
 |nil=>rfl
 |cons a r=>
  rw[a8];unfold nH;rw[cw];refine⟨rfl,bz.mpr λz hz=>?_⟩;obtain⟨q,_,rfl⟩:=aq.mp hz;rfl
theorem DN{β:Type}(f:Dd->β)(hf:∀a b,f a=f b->a.nm=b.nm):∀{xs:List Dd},(xs.map (·.nm)).Nodup->(xs.map f).Nodup:=λ{xs} h=>by
 unfold List.Nodup at*;rw[dt] at*;exact h.imp λhne e=>hne (hf _ _ e)
theorem N8(a b:Dd)(e:kyL a=kyL b):a.nm=b.nm:=by
 unfold kyL at e;simp at e;exact Prod.ext e.2.1 e.2.2
theorem lG{h hX:PH}{o:MO}{n:Nat}(x:Ext h hX)(hn:h.length<=n):Ext h (hX.set n o):=λm o' e=>by
 have:=(ab.mp e).1;rw[bg (by omega)];exact x m o' e
abbrev oK(os:List Dd):Prop:=os.Pairwise (λa b=>bM (kyL b) (kyL a)=false)
theorem BZ(U ds:List Dd)(hU:∀d∈ds,d∈U)(hlU:U.length<=63)(hw:∀d∈ds,Wf d)(hl:ds.length<=1000)(hu:∀d∈ds,∀e∈ds,d.nm=e.nm->d=e)(n:Nat)(h:PH)(g:h[n]?=some (.lst (ds.map dP)))(Q:PV->PH->Prop)
  (k:∀os l h',Ext h h'->h.length<=l->h'[l]?=some (.lst (os.map dP))->(os.map (·.nm)).Nodup->(∀d,d∈os↔d∈ds)->oK os->Q (.ref l) h'):(dB [.ref n] h).W Q:=by
 refine eY ?_;unfold oG;rw[aL];simp;have x0:Ext h (h++[MO.dK []]):=Ext.app _ _;have g0:cJ (h++[MO.dK []]) h.length=some (([]:List Dd).map ent):=HP aK;generalize h++[MO.dK []]=hA at x0 g0;refine now ?_;rw[aL];refine sC (n:=n) (xs:=ds.map dP) (h1:=hA) (λq δ h'=>∃es:List Dd,Ext h h'/\cJ h' h.length=some (es.map ent)/\(es.map (·.nm)).Nodup/\(∀d,d∈es↔d∈ds.take q)/\es.length<=q/\∃x2,δ=[some (.ref n),some (.ref h.length),x2]) (by simp) (x0 _ _ g) ⟨[],x0,g0,by simp,by simp,by simp,_,rfl⟩ ?_ ?_ ?_
 ·rintro q δ h' hq ⟨es,x,_⟩;exact x _ _ g
 ·rintro q y δ h' hy ⟨es,x,t,nd,mem,le,x2,rfl⟩;rw[au]at hy;obtain⟨d,hd,rfl⟩:=bc.mp hy;have hq':q<ds.length:=(ab.mp hd).1;have htk:ds.take (q+1)=ds.take q++[d]:=by rw[fq,hd];rfl
  have hin:d∈ds:=cq hd;have hes:∀e∈es,e∈ds:=λe he=>List.mem_of_mem_take ((mem e).mp he);refine⟨_,rfl,?_⟩;have hp:uQ (.ref h.length) (pv d.nm) (dP d) h'=some (h'.set h.length (.dD (dI (es.map ent) (pv d.nm) (dP d)))):=Mx t Sh (by rw[af];omega);rw[Qp λe he z=>hu e (hes e he) d hin z]at hp;have hh:∃o,h'[h.length]?=some o:=let ⟨o,g,_⟩:=gL t;⟨o,g⟩;obtain⟨o,ho⟩:=hh;unfold qC;simp[dP0];refine⟨_,hp,Qn x,_,HQ (eC ho),?_,?_,?_⟩
  ·split
   ·exact nd
   ·rename_i z;rw[c7,jk];refine⟨nd,by simp,λa ha b hb e=>?_⟩;rw[List.map_singleton,bf]at hb;subst hb e;exact z (by simpa using ha)
  ·intro e;rw[htk];split
   ·rename_i z;rw[mem e,bh,bf];constructor
    ·exact .inl
    ·rintro(z'|rfl)
     ·exact z'
     ·obtain⟨e',he',en⟩:=aq.mp (show e.nm∈es.map (·.nm) by simpa using z)
      have:=hu e' (hes e' he') e hin en;subst this;exact(mem e').mp he'
   ·rw[bh,bh,mem e]
  ·split
   ·omega
   ·simp;omega
 ·rintro δ h' ⟨es,x,t,nd,mem,le,x2,rfl⟩;have hle:es.length<=63:=by
   have h1:(es.map (·.nm)).length<=(U.map (·.nm)).length:=i7 nd λp hp=>by
    obtain⟨d,hd,rfl⟩:=aq.mp hp;exact aq.mpr ⟨d,hU d (List.mem_of_mem_take ((mem d).mp hd)),rfl⟩
   simp at h1;omega
  obtain⟨o,ho,hdc,_⟩:=gL t;refine now ?_;simp[hdc,Q6 t];have x1:Ext h' (h'++[MO.vw 1 h.length]):=Ext.app _ _;have ei:iA (.ref h'.length) (h'++[MO.vw 1 h.length])=some (es.map dP):=by
   rw[Dt aK (gM x1 t),cu];rfl
  generalize h'++[MO.vw 1 h.length]=h2 at x1 ei;have mem':∀d,d∈es↔d∈ds:=λd=>by rw[mem d,af,ja]
  refine HU (key:=kyL) (emb:=dP) (S:=shape [.inl 0,.inr "",.inl 0]) ei (by omega) (Qq es) (λ_ _=>rfl) (DN kyL N8 nd) (λd hd h Q kk=>Qo d (hw d ((mem' d).mp hd)).len h Q kk) λos h3 x3 hp ho=>?_;refine k os h3.length _ ((x.trans x1).trans (x3.trans (Ext.app _ _))) (df x.len (df x1.len x3.len)) aK ((hp.map _).nodup_iff.mpr nd) (λd=>(hp.mem_iff).trans (mem' d)) ho
theorem lH(ds:List Dd)(hw:∀d∈ds,Wf d)(hl:ds.length<=63)(hu:∀d∈ds,∀e∈ds,d.nm=e.nm->d=e)(n:Nat)(h:PH)(g:h[n]?=some (.lst (ds.map dP)))(Q:PV->PH->Prop)
  (k:∀os l h',Ext h h'->h'[l]?=some (.lst (os.map dP))->(os.map (·.nm)).Nodup->(∀d,d∈os↔d∈ds)->oK os->Q (.ref l) h'):(dB [.ref n] h).W Q:=by
 exact BZ ds ds (λ_ h=>h) hl hw (by omega) hu n h g Q λos l h' a _ b c d e=>k os l h' a b c d e
def lk{β:Type}:List (Str×β)->Str->Option β
 |[],_=>none
 |p::r,w=>if p.1=w then some p.2 else lk r w
def dpt{β:Type}(R:List (Str×β))(w:Str)(m:β):List (Str×β):=if(lk R w).isSome then R.map (λp=>if p.1=w then(p.1,m) else p) else R++[(w,m)]
def em{β:Type}(f:β->PV)(R:List (Str×β)):List (Key×PV):=R.map λp=>(.inr p.1,f p.2)
theorem Ih{β:Type}(f:β->PV)(w:Str):∀R:List (Str×β),aU (em f R) (.inr w)=(lk R w).map f
 |[]=>rfl
 |p::r=>by
  show aU ((mz p.1,f p.2)::em f r) (.inr w)=_
  unfold aU lk
  by_cases e:p.1=w
  ·rw[if_pos e,if_pos (by rw[e])];rfl
  ·rw[if_neg e,if_neg (by simpa using e)];exact Ih f w r
theorem Si{β:Type}(f:β->PV)(R:List (Str×β))(w:Str)(m:β):dI (em f R) (.inr w) (f m)=em f (dpt R w m):=by
 unfold dI dpt;rw[Ih];cases lk R w with
 |none=>simp[em]
 |some z=>
  simp only[Option.map_some,jx,if_true];unfold em;rw[cu,cu];apply d8;intro p _
  by_cases e:p.1=w
  ·simp[e]
  ·simp[e]
theorem N9{β:Type}(w:Str)(m:β)(x:Str):∀R:List (Str×β),lk (R.map λp=>if p.1=w then(p.1,m) else p) x=if x=w then(lk R x).map (λ_=>m) else lk R x
 |[]=>by simp[lk]
 |p::r=>by
  rw[a8];have ih:=N9 w m x r
  by_cases e:p.1=w
  ·rw[if_pos e];unfold lk;dsimp only
   by_cases z:p.1=x
   ·rw[if_pos z,if_pos z,if_pos (z.symm.trans e)];rfl
   ·rw[if_neg z,if_neg z,ih]
  ·rw[if_neg e];unfold lk
   by_cases z:p.1=x
   ·rw[if_pos z,if_pos z,if_neg (λq=>e (z.trans q))]
   ·rw[if_neg z,if_neg z,ih]
theorem N'{β:Type}(w:Str)(m:β)(x:Str):∀R:List (Str×β),lk (R++[(w,m)]) x=match lk R x with|some y=>some y|none=>if x=w then some m else none
 |[]=>by
  show(if w=x then some m else none)=if x=w then some m else none
  by_cases e:w=x
  ·rw[if_pos e,if_pos e.symm]
  ·rw[if_neg e,if_neg λz=>e z.symm]
 |p::r=>by
  rw[List.cons_append];unfold lk
  by_cases z:p.1=x
  ·rw[if_pos z,if_pos z]
  ·rw[if_neg z,if_neg z,N' w m x r]
theorem FL{β:Type}(R:List (Str×β))(w:Str)(m:β)(x:Str):lk (dpt R w m) x=if x=w then some m else lk R x:=by
 unfold dpt;cases e:lk R w with
 |none=>
  rw[if_neg (by simp),N']
  by_cases z:x=w
  ·subst z;rw[e,if_pos rfl]
  ·rw[if_neg z];cases lk R x <;> simp[z]
 |some y=>
  rw[if_pos (by simp),N9]
  by_cases z:x=w
  ·subst z;rw[if_pos rfl,if_pos rfl,e];rfl
  ·rw[if_neg z,if_neg z]
theorem Qs{β:Type}{R:List (Str×β)}{w:Str}{m:β}:(dpt R w m).length<=R.length+1:=by
 unfold dpt;split <;> simp
def nmL(d:Dd):List Key:=[.inr d.nm.1,.inl d.nm.2]
theorem Qt(xs:List Dd):nH (xs.map nmL)=true:=by
 cases xs with
 |nil=>rfl
 |cons a r=>
  rw[a8];unfold nH;rw[cw];refine⟨rfl,bz.mpr λz hz=>?_⟩;obtain⟨q,_,rfl⟩:=aq.mp hz;rfl
theorem U7(a b:Dd)(e:nmL a=nmL b):a.nm=b.nm:=by
 unfold nmL at e;simp at e;exact Prod.ext e.1 e.2
theorem Qu(d:Dd)(h:PH)(Q:PV->PH->Prop)(k:Q (pv d.nm) h):(iO [dP d] h).W Q:=by
 refine eY ?_;simp[sO,dP0];exact k
abbrev FM(n:Int)(bs:List Dd):Option Dd:=bs.find? λb=>reach (hdD b) n
theorem Na(n:Int)(bs:List Dd)(hb:∀b∈bs,Wf b/\∃f l,b.kd=.back f l)(hz:bs.length<=100)(m:Nat)(h:PH)(g:h[m]?=some (.lst (bs.map dP)))(Q:PV->PH->Prop)(k:Q (match FM n bs with|some b=>pv b.nm|none=>.non) h):(jL [.int n,.ref m] h).W Q:=by
 refine eY ?_;unfold oH;rw[aL];refine sC (n:=m) (xs:=bs.map dP) (h1:=h) (λq δ h'=>h'=h/\(∀b∈bs.take q,reach (hdD b) n=false)/\∃x2 x3 x4 x5,δ=[some (.int n),some (.ref m),x2,x3,x4,x5]) (by simp) g ⟨rfl,by simp,_,_,_,_,rfl⟩ ?_ ?_ ?_
 ·rintro q δ h' hq ⟨rfl,_⟩;exact g
 ·rintro q y δ h' hy ⟨rfl,nr,x2,x3,x4,x5,rfl⟩;rw[au]at hy;obtain⟨d,hd,rfl⟩:=bc.mp hy;have hq':q<bs.length:=(ab.mp hd).1;obtain⟨wf,f,l,ek⟩:=hb d (cq hd);have ea:d.act=[.str "back",.int f,.int l]:=by
   have:=wf.act;rw[ek]at this;exact this
  have er:reach (hdD d) n=decide (f<=n/\n<=l):=by
   unfold reach
   show(match d.kd with|.back f l=>decide (f<=n/\n<=l)|_=>false)=_
   rw[ek]
  have split1:bs=bs.take q++d::bs.drop (q+1):=by
   have e1:bs.drop q=d::bs.drop (q+1):=drop_cons hd;rw[<-e1,List.take_append_drop]
  refine⟨_,rfl,?_⟩;unfold qD;rw[aL];simp[dP2,ea];refine now ?_;simp[dP0];have fin:f<=n->n<=l->Q (pv d.nm) h':=λh1 h2=>by
   have:FM n bs=some d:=by
    unfold FM;rw[split1,List.find?_append,List.find?_eq_none.mpr (λb hb=>by rw[nr b hb];decide),List.find?_cons_of_pos (by rw[show reach (hdD d) n=decide (f<=n/\n<=l) from er];exact decide_eq_true ⟨h1,h2⟩)]
    rfl
   rw[this]at k;exact k
  have nxt:¬ (f<=n/\n<=l)->∀b∈bs.take (q+1),reach (hdD b) n=false:=λz b hb=>by
   rw[fq,hd,bh]at hb;rcases hb with hb|hb
   ·exact nr b hb
   ·rw[show(some d).toList=[d] from rfl,bf]at hb
    subst hb;rw[er];exact decide_eq_false z
  split
  ·rename_i z1;split
   ·rename_i z2;exact fin z1 z2
   ·rename_i z2;exact nxt λz=>z2 z.2
  ·rename_i z1;exact nxt λz=>z1 z.1
 ·rintro δ h' ⟨rfl,nr,x2,x3,x4,x5,rfl⟩;rw[af,ja]at nr;have:FM n bs=none:=List.find?_eq_none.mpr λb hb=>by rw[nr b hb];decide
  rw[this]at k;refine now ?_;simp;exact k
def tkE(x:Str×HD×HD):PV×PV:=(pv (x.1,x.2.1.1),pv (x.1,x.2.2.1))
theorem C0(p:Str×Int):∀T:List (Str×HD×HD),(aU (T.map tkE) (pv p)).isSome=true ↔ ∃x∈T,x.1=p.1/\x.2.1.1=p.2
 |[]=>by simp[aU]
 |y::T=>by
  rw[a8]
  show(aU ((pv (y.1,y.2.1.1),pv (y.1,y.2.2.1))::T.map tkE) (pv p)).isSome=true↔_
  unfold aU
  by_cases e:(y.1,y.2.1.1)=p
  ·rw[if_pos (by rw[e])];constructor
   ·intro _;exact⟨y,ai,by rw[<-e],by rw[<-e]⟩
   ·intro _;rfl
  ·rw[if_neg (λz=>e (sR z)),C0 p T];constructor
   ·rintro⟨x,hx,q⟩;exact⟨x,aj _ hx,q⟩
   ·rintro⟨x,hx,q1,q2⟩;rcases ba.mp hx with rfl|hx
    ·exact(e (Prod.ext q1 q2)).elim
    ·exact⟨x,hx,q1,q2⟩
theorem Qv(n:Int)(bs:List Dd):hit n (bs.map hdD)=(FM n bs).map hdD:=by
 unfold hit FM;rw[List.find?_map];rfl
theorem Qw{d:Dd}(w:Wf d):∃x r,d.act=.str x::r/\(x="settle" ↔ d.kd=.settle)/\(x="back" ↔ ∃f l,d.kd=.back f l):=by
 have h:=w.act;cases e:d.kd with
 |settle=>rw[e]at h;exact⟨"settle",[],h,by simp,by simp;decide⟩
 |back f l=>rw[e]at h;exact⟨"back",_,h,by simp;decide,by simp⟩
 |other=>
  rw[e]at h;obtain⟨x,r,e1,n1,n2⟩:=h;exact⟨x,r,e1,by simp[n1],by simp[n2]⟩
abbrev qJ(L:List Dd):Prop:=L.Pairwise (λa b=>bM (nmL a) (nmL b)=false)
structure BOk(sl lb:Nat)(q:Nat)(h':PH)(R:List (Str×Nat))(Bd:Str->List Dd):Prop where
 at':∀w m,lk R w=some m->h'[m]?=some (.lst ((Bd w).map dP))/\lb<m/\m≠sl
 no:∀w,lk R w=none->Bd w=[]
 inj:∀w w' m,lk R w=some m->lk R w'=some m->w=w'
 back:∀w,∀b∈Bd w,b.nm.1=w/\Wf b/\∃f l,b.kd=.back f l
 len:∀w,(Bd w).length<=q
 lenR:R.length<=q
theorem BOk.get{sl lb q:Nat}{h' h2:PH}{R:List (Str×Nat)}{Bd:Str->List Dd}(b:BOk sl lb q h' R Bd)(e:Ext h' h2):BOk sl lb q h2 R Bd:=
 ⟨λw m z=>let ⟨a,c,d⟩:=b.at' w m z;⟨e _ _ a,c,d⟩,b.no,b.inj,b.back,b.len,b.lenR⟩
theorem BOk.up{sl lb q:Nat}{h':PH}{R:List (Str×Nat)}{Bd:Str->List Dd}(b:BOk sl lb q h' R Bd):BOk sl lb (q+1) h' R Bd:=
 ⟨b.at',b.no,b.inj,b.back,λw=>kc (b.len w),kc b.lenR⟩
theorem BOk.aside{sl lb q n:Nat}{h':PH}{o:MO}{R:List (Str×Nat)}{Bd:Str->List Dd}(b:BOk sl lb q h' R Bd)(hn:n<=lb):BOk sl lb q (h'.set n o) R Bd:=
 ⟨λw m z=>let ⟨a,c,d⟩:=b.at' w m z;⟨by rw[bg (by omega)];exact a,c,d⟩,b.no,b.inj,b.back,b.len,b.lenR⟩
theorem BOk.skip{sl lb q n:Nat}{h':PH}{o:MO}{R:List (Str×Nat)}{Bd:Str->List Dd}(b:BOk sl lb q h' R Bd)(hn:∀x,lk R x≠some n):BOk sl lb q (h'.set n o) R Bd:=
 ⟨λw m z=>let ⟨a,c,d⟩:=b.at' w m z;⟨by rw[bg (λe:n=m=>hn w (e▸z))];exact a,c,d⟩,b.no,b.inj,b.back,b.len,b.lenR⟩
theorem BOk.put{sl lb q m:Nat}{h':PH}{R:List (Str×Nat)}{Bd:Str->List Dd}{w:Str}{bs:List Dd}(b:BOk sl lb q h' R Bd)(hm:h'[m]?=some (.lst (bs.map dP)))(h1:lb<m)(h2:m≠sl)(hf:∀x,lk R x≠some m)
  (hb:∀b∈bs,b.nm.1=w/\Wf b/\∃f l,b.kd=.back f l) (hl:bs.length<=q+1):BOk sl lb (q+1) h' (dpt R w m) (λx=>if x=w then bs else Bd x) where
 at':=λx m' z=>by
  rw[FL]at z
  by_cases e:x=w
  ·rw[if_pos e]at z⊢;cases z
   exact⟨hm,h1,h2⟩
  ·rw[if_neg e]at z⊢;exact b.at' x m' z
 no:=λx z=>by
  rw[FL]at z
  by_cases e:x=w
  ·rw[if_pos e]at z;cases z
  ·rw[if_neg e]at z⊢;exact b.no x z
 inj:=λx y m' z1 z2=>by
  rw[FL]at z1 z2
  by_cases e1:x=w <;> by_cases e2:y=w
  ·rw[e1,e2]
  ·rw[if_pos e1]at z1;rw[if_neg e2]at z2;cases z1;exact(hf y z2).elim
  ·rw[if_neg e1]at z1;rw[if_pos e2]at z2;cases z2;exact(hf x z1).elim
  ·rw[if_neg e1]at z1;rw[if_neg e2]at z2;exact b.inj x y m' z1 z2
 back:=λx y hy=>by
  by_cases e:x=w
  ·simp only[if_pos e]at hy;rw[e];exact hb y hy
  ·simp only[if_neg e]at hy;exact b.back x y hy
 len:=λx=>by
  by_cases e:x=w
  ·simp only[if_pos e];exact hl
  ·simp only[if_neg e];exact kc (b.len x)
 lenR:=df Qs (Nat.succ_le_succ b.lenR)
theorem BOk.grow{sl lb q m:Nat}{h':PH}{R:List (Str×Nat)}{Bd:Str->List Dd}{d:Dd}(b:BOk sl lb q h' R Bd)(hm:lk R d.nm.1=some m)(hw:Wf d)(hk:∃f l,d.kd=.back f l):
  BOk sl lb (q+1) (h'.set m (.lst ((Bd d.nm.1++[d]).map dP))) R (λx=>if x=d.nm.1 then Bd d.nm.1++[d] else Bd x) where
 at':=λx m' z=>by
  obtain⟨a,c,e⟩:=b.at' x m' z
  by_cases ew:x=d.nm.1
  ·subst ew;rw[hm]at z;cases z;rw[if_pos rfl];exact⟨eC a,c,e⟩
  ·rw[if_neg ew,bg (λzz:m=m'=>ew (b.inj _ _ m' z (zz▸hm)))];exact⟨a,c,e⟩
 no:=λx z=>by
  by_cases e:x=d.nm.1
  ·rw[e,hm]at z;cases z
  ·rw[if_neg e];exact b.no x z
 inj:=b.inj
 back:=λx y hy=>by
  by_cases e:x=d.nm.1
  ·simp only[if_pos e]at hy;rcases bh.mp hy with hy|hy
   ·rw[e];exact b.back _ y hy
   ·rw[bf.mp hy];exact⟨e.symm,hw,hk⟩
  ·simp only[if_neg e]at hy;exact b.back x y hy
 len:=λx=>by
  by_cases e:x=d.nm.1
  ·simp only[if_pos e];rw[fg];exact Nat.succ_le_succ (b.len _)
  ·simp only[if_neg e];exact kc (b.len x)
 lenR:=kc b.lenR
def TI(h:PH)(n sl:Nat)(L:List Dd)(q:Nat)(δ:Ev)(h':PH):Prop:=∃T R Bd,Ext h h'/\h'[sl]?=some (.lst (L.map dP))/\cJ h' h.length=some (T.map tkE)/\h'[h.length+1]?=some (.dK (em PV.ref R))/\BOk sl (h.length+1) q h' R Bd/\T.length<=q/\(∀x∈T,(x.1,x.2.1.1)∈(L.take q).map (·.nm))/\
   run (L.map tri) (λ_=>[])=T++run ((L.drop q).map tri) (λw=>(Bd w).map hdD)/\∃x3 x4 x5 x6 x7,δ=[some (.ref n),some (.ref h.length),some (.ref (h.length+1)),x3,x4,x5,x6,x7]
theorem JO(os:List Dd)(hw:∀d∈os,Wf d)(hl:os.length<=63)(nd:(os.map (·.nm)).Nodup)(n:Nat)(h:PH)(g:h[n]?=some (.lst (os.map dP)))(Q:PV->PH->Prop)
  (k:∀L l h',Ext h h'->L.Perm os->qJ L->cJ h' l=some ((run (L.map tri) λ_=>[]).map tkE)->Q (.ref l) h'):(qE [.ref n] h).W Q:=by
 refine eY ?_;unfold xM;rw[aL];simp;refine now ?_;rw[aL];simp;have x0:Ext h (h++[MO.dK [],MO.dK []]):=Ext.app _ _;have gt:cJ (h++[MO.dK [],MO.dK []]) h.length=some (([]:List (Str×HD×HD)).map tkE):=HP (by simp);have gb:(h++[MO.dK [],MO.dK []])[h.length+1]?=some (.dK (em PV.ref [])):=by simp[em]
 generalize h++[MO.dK [],MO.dK []]=hA at x0 gt gb;refine now ?_;rw[aL];have gA:=x0 _ _ g
 -- the sort comes first
 have srt:(kQ iO true (.ref n) hA).W λp h2=>∃L h3,p=.ref h3.length/\h2=h3++[.lst (L.map dP)]/\Ext hA h3/\L.Perm os/\qJ L:=
  HU (key:=nmL) (emb:=dP) (S:=shape [.inr "",.inl 0]) (Fw gA) (by omega) (Qt os) (λ_ _=>rfl) (DN nmL U7 nd) (λd hd h Q kk=>Qu d h Q (kk h (Ext.refl h))) λL h3 x3 hp ho=>⟨L,h3,rfl,rfl,x3,hp,ho⟩
 obtain⟨p,h2,e2,L,h3,rfl,rfl,x3,hp,hf⟩:=gH srt;have hlA:h.length+1<hA.length:=(ab.mp gb).1;have hl3:hA.length<=h3.length:=x3.len;have x1:Ext h (h3++[.lst (L.map dP)]):=x0.trans (x3.trans (Ext.app _ _));have gt1:=gM (x3.trans (Ext.app h3 [.lst (L.map dP)])) gt;have gb1:=(x3.trans (Ext.app h3 [.lst (L.map dP)])) _ _ gb;have gs:(h3++[.lst (L.map dP)])[h3.length]?=some (.lst (L.map dP)):=aK;have hsl:h.length+1<h3.length:=by omega
 generalize h3.length=sl at e2 gs hsl;generalize h3++[.lst (L.map dP)]=hB at e2 x1 gt1 gb1 gs;have hwL:∀d∈L,Wf d:=λd hd=>hw d (hp.mem_iff.mp hd);have ndL:(L.map (·.nm)).Nodup:=(hp.map _).nodup_iff.mpr nd;have hlL:L.length<=63:=by rw[hp.length_eq];exact hl
 refine sC (n:=sl) (xs:=L.map dP) (h1:=hB) (TI h n sl L) ?_ gs ?_ ?_ ?_ ?_
 ·simp[e2]
 ·exact⟨[],[],λ_=>[],x1,gs,gt1,gb1,⟨λw m z=>(by cases z),λ_ _=>rfl,λw w' m z=>(by cases z),λw b hb=>(by cases hb),λ_=>bw _,bw _⟩,bw _,λx hx=>(by cases hx),by simp,_,_,_,_,_,rfl⟩
 ·rintro q δ h' hq ⟨T,R,Bd,x,g1,_⟩;exact g1
 ·rintro q y δ h' hy ⟨T,R,Bd,x,g1,g2,g3,b,lT,nT,hr,x3,x4,x5,x6,x7,rfl⟩;rw[au]at hy;obtain⟨d,hdq,rfl⟩:=bc.mp hy;have hq':q<L.length:=(ab.mp hdq).1;have hdr:L.drop q=d::L.drop (q+1):=drop_cons hdq;have htk:L.take (q+1)=L.take q++[d]:=by rw[fq,hdq];rfl
  have wf:=hwL d (cq hdq);obtain⟨wd,r,ea,es,eb⟩:=Qw wf;rw[hdr,a8,xQ]at hr;have hnew:d.nm∉(L.take q).map (·.nm):=λz=>by
   have e1:L.map (·.nm)=(L.take q).map (·.nm)++(d::L.drop (q+1)).map (·.nm):=by rw[<-c7,<-hdr,List.take_append_drop]
   rw[e1,jk]at ndL;exact ndL.2.2 _ z _ (by simp) rfl
  have nT1:∀x∈T,(x.1,x.2.1.1)∈(L.take (q+1)).map (·.nm):=λx hx=>by
   rw[htk,c7];exact ij _ (nT x hx)
  refine⟨_,rfl,?_⟩;unfold xK;rw[aL];simp[dP0];refine⟨[some (.ref n),some (.ref h.length),some (.ref (h.length+1)),some (dP d),some (.str d.nm.1),some (.int d.nm.2),x6,x7],by simp[pv],?_⟩;refine now ?_;rw[aL];simp[dP2,ea];refine now ?_;rw[aL];have hlen':h.length+1<h'.length:=(ab.mp g3).1;have hsl':sl<h'.length:=(ab.mp g1).1
  by_cases c1:wd="settle"
  ·have ek:=es.mp c1;simp[c1,aL];have y1:Ext h' (h'++[MO.lst []]):=Ext.app _ _;have y2:(h'++[MO.lst []])[h'.length]?=some (.lst (([]:List Dd).map dP)):=aK;generalize h'++[MO.lst []]=h2 at y1 y2;have g3':=y1 _ _ g3;have hput:uQ (.ref (h.length+1)) (.str d.nm.1) (.ref h'.length) h2=some (h2.set (h.length+1) (.dK (em PV.ref (dpt R d.nm.1 h'.length)))):=by
    rw[HN g3' (by unfold em;rw[af];have:=b.lenR;omega),Si]
   have b1:=((b.get y1).put (w:=d.nm.1) (bs:=[]) y2 hlen' (by omega) (λx z=>by
    have:=(ab.mp (b.at' x _ z).1).1;omega) (λb hb=>by cases hb) (bw _)).aside (n:=h.length+1) (o:=.dK (em PV.ref (dpt R d.nm.1 h'.length))) (ak _)
   have x2:Ext h (h2.set (h.length+1) (.dK (em PV.ref (dpt R d.nm.1 h'.length)))):=lG (x.trans y1) (by omega);have gsl:(h2.set (h.length+1) (.dK (em PV.ref (dpt R d.nm.1 h'.length))))[sl]?=some (.lst (L.map dP)):=eD (y1 _ _ g1) (by omega);obtain⟨o,ho,_,hh⟩:=gL (gM y1 g2);have gtt:=hh _ (eD (n:=h.length+1) (m:=h.length) (o':=.dK (em PV.ref (dpt R d.nm.1 h'.length))) ho (by omega));refine⟨_,hput,now ?_⟩;simp;refine⟨T,_,_,x2,gsl,gtt,eC g3',b1,by omega,nT1,?_,_,_,_,_,_,rfl⟩;rw[hr,show(tri d).2.2=.settle from ek]
   simp only
   congr 2
   funext w
   show(if w=d.nm.1 then[] else(Bd w).map hdD)=_
   by_cases e:w=d.nm.1
   ·rw[if_pos e,if_pos e];rfl
   ·rw[if_neg e,if_neg e]
  ·have ek:d.kd≠.settle:=λz=>c1 (es.mpr z);simp[c1];refine now ?_;rw[aL]
   -- what the hand has so far
   have y1:Ext h' (h'++[MO.lst []]):=Ext.app _ _;have y2:(h'++[MO.lst []])[h'.length]?=some (.lst (([]:List Dd).map dP)):=aK;have hdc:dQ (.ref (h.length+1)) h'=true:=kO g3;have hget:=BC (x:=d.nm.1) (z:=.ref h'.length) (y1 _ _ g3);simp[hdc];generalize h'++[MO.lst []]=h2 at y1 y2 hget;rw[Ih]at hget;have b1:=b.get y1;have hmm:∃m,(((lk R d.nm.1).map PV.ref).getD (.ref h'.length))=.ref m/\h2[m]?=some (.lst ((Bd d.nm.1).map dP)):=by
    cases e:lk R d.nm.1 with
    |some m=>exact⟨m,rfl,(b1.at' _ _ e).1⟩
    |none=>exact⟨h'.length,rfl,by rw[b.no _ e];exact y2⟩
   obtain⟨m,em1,em2⟩:=hmm;rw[em1]at hget;simp[hget];refine Na d.nm.2 (Bd d.nm.1) (λz hz=>(b.back _ z hz).2) (by have:=b.len d.nm.1;omega) m h2 em2 _ ?_;have hh:=Qv d.nm.2 (Bd d.nm.1);have gsl2:=y1 _ _ g1;have g22:=gM y1 g2;have g32:=y1 _ _ g3;have xh2:=x.trans y1;cases eh:FM d.nm.2 (Bd d.nm.1) with
   |some z=>
    rw[eh]at hh;simp only[eh];refine now ?_;have hzb:z.nm.1=d.nm.1:=(b.back _ z (List.mem_of_find?_eq_some eh)).1;have hput:uQ (.ref h.length) (pv d.nm) (pv z.nm) h2=some (h2.set h.length (.dD (dI (T.map tkE) (pv d.nm) (pv z.nm)))):=Mx g22 Sh (by rw[af];omega);have eput:dI (T.map tkE) (pv d.nm) (pv z.nm)=(T++[(d.nm.1,hdD d,hdD z)]).map tkE:=by
     unfold dI;rw[if_neg (λzz=>by
      obtain⟨x,hx,e1,e2⟩:=(C0 d.nm T).mp zz;exact hnew (by have:=nT x hx;rw[e1,e2]at this;exact this)),c7]
     congr 1
     have e3:pv z.nm=pv (d.nm.1,z.nm.2):=by rw[<-hzb]
     show[(pv d.nm,pv z.nm)]=[(pv (d.nm.1,d.nm.2),pv (d.nm.1,z.nm.2))]
     rw[e3]
    rw[eput]at hput;obtain⟨o,ho,_,_⟩:=gL g22;have nz:kE (pv z.nm)=false:=rfl;simp[nz,dP0];refine⟨_,hput,T++[(d.nm.1,hdD d,hdD z)],R,Bd,lG xh2 (ak _),eD gsl2 (by omega),HQ (eC ho),eD g32 (by omega),(b1.aside (by omega)).up,by simp;omega,?_,?_,_,_,_,_,_,rfl⟩
    ·intro x hx;rcases bh.mp hx with hx|hx
     ·exact nT1 x hx
     ·rw[bf.mp hx,htk,c7];exact ao _ (by simp[hdD])
    ·rw[hr];have e1:hit (tri d).2.1 ((Bd (tri d).1).map hdD)=some (hdD z):=hh;rw[List.append_assoc]
     congr 1
     show(match d.kd,hit d.nm.2 ((Bd d.nm.1).map hdD) with|.settle,_=>_|_,some b=>_|.back _ _,none=>_|.other,none=>_)=_
     rw[hh];cases ek2:d.kd with
     |settle=>exact(ek ek2).elim
     |back f l=>rfl
     |other=>rfl
   |none=>
    rw[eh]at hh;simp only[eh];refine now ?_;simp
    by_cases c2:wd="back"
    ·obtain⟨f,l,ek2⟩:=eb.mp c2;have hdc2:dQ (.ref (h.length+1)) h2=true:=kO g32;simp[c2,hdc2];have z1:Ext h2 (h2++[MO.lst []]):=Ext.app _ _;have z2:(h2++[MO.lst []])[h2.length]?=some (.lst (([]:List Dd).map dP)):=aK;have hl2:h'.length<=h2.length:=y1.len;generalize h2++[MO.lst []]=h4 at z1 z2;have g34:=z1 _ _ g32;have hsd:=Jt (x:=d.nm.1) (z:=.ref h2.length) g34 (by unfold em;rw[af];have:=b.lenR;omega);rw[Ih]at hsd;have xh4:=xh2.trans z1;have run2:run (L.map tri) (λ_=>[])=T++run ((L.drop (q+1)).map tri) (λw=>(if w=d.nm.1 then Bd d.nm.1++[d] else Bd w).map hdD):=by
      rw[hr]
      congr 1
      show(match d.kd,hit d.nm.2 ((Bd d.nm.1).map hdD) with|.settle,_=>_|_,some b=>_|.back _ _,none=>_|.other,none=>_)=_
      rw[hh,ek2]
      show run _ _=run _ _
      congr 1
      funext w
      show(if w=d.nm.1 then(Bd w).map hdD++[hdD d] else(Bd w).map hdD)=_
      by_cases e:w=d.nm.1
      ·rw[if_pos e,if_pos e,e,c7];rfl
      ·rw[if_neg e,if_neg e]
     cases e:lk R d.nm.1 with
     |some m'=>
      rw[e]at hsd;have b4:=b1.get z1;obtain⟨q1,q2,q3⟩:=b4.at' _ _ e;simp[hsd,jE q1];have hap:=gJ (p:=dP d) q1 (by rw[af];have:=b.len d.nm.1;omega);have b5:=b4.grow e wf ⟨f,l,ek2⟩;rw[show(Bd d.nm.1).map dP++[dP d]=(Bd d.nm.1++[d]).map dP by simp]at hap;rw[hap,kK];obtain⟨o,ho,_,hh2⟩:=gL (gM z1 g22);exact⟨T,R,_,lG xh4 (by omega),eD (z1 _ _ gsl2) (by omega),hh2 _ (eD ho (by omega)),eD g34 (by omega),b5,by omega,nT1,run2,_,_,_,_,_,rfl⟩
     |none=>
      rw[e]at hsd;simp at hsd;rw[Si]at hsd;have q1:(h4.set (h.length+1) (.dK (em PV.ref (dpt R d.nm.1 h2.length))))[h2.length]?=some (.lst (([]:List Dd).map dP)):=eD z2 (by omega);simp[hsd,jE q1];have hap:=gJ (p:=dP d) q1 (by simp);rw[show(([]:List Dd).map dP++[dP d])=[d].map dP from rfl]at hap
      rw[hap,kK];have nox:∀x,lk R x≠some h2.length:=λx z=>by
       have:=(ab.mp (b1.at' x _ z).1).1;omega
      have b6:=((b1.get z1).aside (n:=h.length+1) (o:=.dK (em PV.ref (dpt R d.nm.1 h2.length))) (ak _)).skip (n:=h2.length) (o:=.lst ([d].map dP)) nox;have b7:=b6.put (w:=d.nm.1) (bs:=[d]) (m:=h2.length) (eC q1) (by omega) (by omega) nox (λy hy=>by
       rw[bf.mp hy];exact⟨rfl,wf,f,l,ek2⟩) (by simp)
      have eB:Bd d.nm.1=[]:=b.no _ e;rw[eB]at run2;obtain⟨o,ho,_,hh2⟩:=gL (gM z1 g22);refine⟨T,_,_,lG (lG xh4 (by omega)) (by omega),eD (eD (z1 _ _ gsl2) (by omega)) (by omega),hh2 _ (eD (eD ho (by omega)) (by omega)),eD (eC g34) (by omega),b7,by omega,nT1,run2,_,_,_,_,_,rfl⟩
    ·have ek2:d.kd=.other:=by
      cases z:d.kd with
      |settle=>exact(ek z).elim
      |back f l=>exact(c2 (eb.mpr ⟨f,l,z⟩)).elim
      |other=>rfl
     simp[c2];refine⟨T,R,Bd,xh2,gsl2,g22,g32,b1.up,by omega,nT1,?_,_,_,_,_,_,rfl⟩;rw[hr]
     congr 1
     show(match d.kd,hit d.nm.2 ((Bd d.nm.1).map hdD) with|.settle,_=>_|_,some b=>_|.back _ _,none=>_|.other,none=>_)=_
     rw[hh,ek2];rfl
 ·rintro δ h' ⟨T,R,Bd,x,g1,g2,g3,b,lT,nT,hr,x3,x4,x5,x6,x7,rfl⟩;refine now ?_;simp;have hr':run (L.map tri) (λ_=>[])=T:=by
   rw[hr,af,oe]
   show T++[]=T
   rw[oj]
  exact k L h.length h' x hp hf (by rw[hr'];exact g2)
theorem jP{α:Type}(c:α->Bool)(f:α->PV):∀xs:List α,xs.filterMap (λx=>if c x=true then some (f x) else none)=(xs.filter c).map f
 |[]=>rfl
 |x::xs=>by
  rw[dj,fi];cases e:c x <;> simp[jP c f xs]
def TkL(L:List Dd)(p:Str×Int):Prop:=∃x∈run (L.map tri) λ_=>[],x.1=p.1/\x.2.1.1=p.2
structure WE(ds out L:List Dd):Prop where
 nd:(out.map (·.nm)).Nodup
 ln:(L.map (·.nm)).Nodup
 fall:qJ L
 mem:∀d,d∈L↔d∈ds
 out:∀d,d∈out↔d∈ds/\¬ TkL L d.nm
theorem DO(ds:List Dd)(hw:∀d∈ds,Wf d)(hl:ds.length<=63)(hu:∀d∈ds,∀e∈ds,d.nm=e.nm->d=e)(n:Nat)(h:PH)(g:h[n]?=some (.lst (ds.map dP)))(Q:PV->PH->Prop)
  (k:∀out L l h',Ext h h'->h'[l]?=some (.lst (out.map dP))->WE ds out L->oK out->Q (.ref l) h'):(dC [.ref n] h).W Q:=by
 refine eY ?_;unfold oI;rw[aL];simp;refine lH ds hw hl hu n h g _ λos l h1 x1 g1 nd mem rk=>?_
 try simp
 refine now ?_;rw[aL];simp;have hlo:os.length<=ds.length:=by
  have h1:(os.map (·.nm)).length<=(ds.map (·.nm)).length:=i7 nd λp hp=>by
   obtain⟨d,hd,rfl⟩:=aq.mp hp;exact aq.mpr ⟨d,(mem d).mp hd,rfl⟩
  simpa using h1
 refine JO os (λd hd=>hw d ((mem d).mp hd)) (by omega) nd l h1 g1 _ λL t h2 x2 hp hf ht=>?_
 try simp
 refine now ?_;have g2:=x2 _ _ g1;have hc:=cX (js:=[none,some 2]) (tg:=gN 0) (tst:=bQ (aD cE (aD vAt (mV 0) (mC (.int 0))) (mV 1))) (elt:=mV 0) (m:=mV 1) (δ:=[some (.ref n),some (.ref l),some (.ref t)]) (h:=h2) (h1:=h2) (n:=l) (ys:=os) (emb:=dP)
  (λd=>if(!(aU ((run (L.map tri) λ_=>[]).map tkE) (pv d.nm)).isSome)=true then some (dP d) else none) (by simp) g2 (by omega) (λd hd=>⟨_,rfl,λh3 hx=>by
   have hn:cE (pv d.nm) (.ref t) h3=.ok (.bl (!(aU ((run (L.map tri) λ_=>[]).map tkE) (pv d.nm)).isSome)) h3:=Js (gM hx ht) rfl;cases e:(aU ((run (L.map tri) λ_=>[]).map tkE) (pv d.nm)).isSome with
   |true=>rw[e]at hn;simp[bX,dP0,hn]
   |false=>rw[e]at hn;simp[bX,dP0,hn]⟩)
 rw[jP (λd=>!(aU ((run (L.map tri) λ_=>[]).map tkE) (pv d.nm)).isSome) dP]at hc;simp[hc];have ndL:(L.map (·.nm)).Nodup:=(hp.map _).nodup_iff.mpr nd;refine k _ L _ _ ((x1.trans x2).trans (Ext.app _ _)) aK ⟨?_,ndL,hf,λd=>hp.mem_iff.trans (mem d),λd=>?_⟩ ?_
 ·exact(d9.map _).nodup nd
 ·rw[ay,mem d];have:=C0 d.nm (run (L.map tri) λ_=>[]);unfold TkL;cases e:aU ((run (L.map tri) λ_=>[]).map tkE) (pv d.nm) with
  |none=>
   rw[e]at this;exact and_congr pb ⟨λ_ z=>(by have q:=this.mpr z;cases q),λ_=>rfl⟩
  |some p=>
   rw[e]at this;exact and_congr pb ⟨λz=>(by cases z),λz=>(z (this.mp rfl)).elim⟩
 ·exact rk.sublist d9
theorem Nb{F G:List Dd}(nF:(F.map (·.nm)).Nodup)(nG:(G.map (·.nm)).Nodup)(hF:qJ F)(hG:qJ G)(m:∀x,x∈F↔x∈G):F=G:=by
 refine i8 (le:=λ(a b:Dd)=>bM (nmL a) (nmL b)=false) (λa b ha hb h1 h2=>?_) hF hG ?_
 ·have e:nmL a=nmL b:=jZ rfl h1 h2;have e2:a.nm=b.nm:=by
   unfold nmL at e;simp at e;exact Prod.ext e.1 e.2
  obtain⟨j,hj⟩:=d7.mp ha;obtain⟨k,hk⟩:=d7.mp ((m b).mpr hb);have:=Sg nF (i:=j) (j:=k) (a:=b.nm) (by rw[au,hj];simp[e2]) (by rw[au,hk];rfl);subst this;rw[hj]at hk;exact bq hk
 ·exact(iq (fu _ (λa b q e=>q (by rw[e])) nF) (fu _ (λa b q e=>q (by rw[e])) nG)).mpr m
def kdOf:Ac->Kd
 |.settle=>.settle
 |.back a b=>.back a b
 |.add _=>.other
def acL:Ac->List PV
 |.settle=>[.str "settle"]
 |.back a b=>[.str "back",.int a,.int b]
 |.add n=>[.str "add",.tup [.str "t",.int 1],.int n]
def dD(d:De):Dd:=⟨d.nm,d.sn,kdOf d.ac,acL d.ac⟩
theorem Nc(d:De):deV d=dP (dD d):=by
 obtain⟨nm,sn,ac⟩:=d;cases ac <;> rfl
theorem Ii(T:List De):T.map deV=(T.map dD).map dP:=by
 rw[cu];exact d8 λd _=>Nc d
theorem WG{d:De}(l:d.sn.length<=100):Wf (dD d):=by
 refine⟨l,?_,?_⟩
 ·obtain⟨nm,sn,ac⟩:=d;cases ac with
  |settle=>exact rfl
  |back a b=>exact rfl
  |add n=>exact⟨_,_,rfl,by decide +kernel,by decide +kernel⟩
 ·obtain⟨nm,sn,ac⟩:=d;cases ac <;> rfl
theorem WH{d:De}:(dP (dD d)).pl 39=true:=by rw[<-Nc];exact FK d
structure lI(R:List Row)(os:List Dd):Prop where
 nd:(os.map (·.nm)).Nodup
 me:∀d,d∈os ↔ ∃z∈R,dD z.d=d
 br:oK os
theorem xR{xs ys:List Dd}(nx:(xs.map (·.nm)).Nodup)(ny:(ys.map (·.nm)).Nodup)(bx:oK xs)(b':oK ys)(m:∀d,d∈xs↔d∈ys):xs=ys:=by
 have uq:∀a∈xs,∀b∈xs,a.nm=b.nm->a=b:=λa ha b hb e=>by
  obtain⟨j,hj⟩:=d7.mp ha;obtain⟨k,hk⟩:=d7.mp hb;have:=Sg nx (i:=j) (j:=k) (a:=b.nm) (by rw[au,hj];simp[e]) (by rw[au,hk];rfl);subst this;rw[hj]at hk;exact bq hk
 refine i8 (le:=λ(a b:Dd)=>bM (kyL b) (kyL a)=false) (λa b ha hb h1 h2=>?_) bx b' ?_
 ·exact uq a ha b ((m b).mpr hb) (N8 a b (jZ (by rfl) h2 h1))
 ·exact(iq (fu _ (λa b q e=>q (by rw[e])) nx) (fu _ (λa b q e=>q (by rw[e])) ny)).mpr m
theorem lI.one{R:List Row}{os ps:List Dd}(a:lI R os)(b:lI R ps):os=ps:=xR a.nd b.nd a.br b.br λd=>(a.me d).trans (b.me d).symm
theorem FN{R:List Row}(inc:Inc R){z y:Row}(hz:z∈R)(hy:y∈R)(e:z.d.nm=y.d.nm):z=y:=by
 obtain⟨i,hi⟩:=d7.mp hz;obtain⟨j,hj⟩:=d7.mp hy;obtain⟨l1,e1⟩:=ab.mp hi;obtain⟨l2,e2⟩:=ab.mp hj;have pw:=f7.mp inc;rcases Nat.lt_trichotomy i j with h|h|h
 ·have:=pw i j l1 l2 h;rw[e1,e2,e]at this;exact absurd (this rfl) (Int.lt_irrefl _)
 ·subst h;exact e1.symm.trans e2
 ·have:=pw j i l2 l1 h;rw[e1,e2,e]at this;exact absurd (this rfl) (Int.lt_irrefl _)
theorem Qx{R:List Row}(inc:Inc R):((R.map λz=>dD z.d).map (·.nm)).Nodup:=by
 unfold List.Nodup;rw[dt,dt];refine inc.imp λ{a b} h e=>?_;have e:a.d.nm=b.d.nm:=e;have:=h (congrArg Prod.fst e);rw[e]at this;omega
theorem fB.l100{hs:List Str}(h6:hs.length<=6){z:Row}(o:fB hs z):z.d.sn.length<=100:=by
 have:=o.sn.1;omega
theorem U8{hs:List Str}(h6:hs.length<=6){R:List Row}(inc:Inc R)(ok:∀z∈R,fB hs z){T:List De}(mem:∀d,d∈T↔d∈R.map (·.d)):(∀d∈T.map dD,Wf d)/\(∀d∈T.map dD,∀e∈T.map dD,d.nm=e.nm->d=e)/\∀d,d∈T.map dD ↔ ∃z∈R,dD z.d=d:=by
 have m:∀d,d∈T.map dD ↔ ∃z∈R,dD z.d=d:=λd=>by
  constructor
  ·intro h;obtain⟨e,he,rfl⟩:=aq.mp h;obtain⟨z,hz,rfl⟩:=aq.mp ((mem e).mp he);exact⟨z,hz,rfl⟩
  ·rintro⟨z,hz,rfl⟩;exact aq.mpr ⟨z.d,(mem z.d).mpr (aq.mpr ⟨z,hz,rfl⟩),rfl⟩
 refine⟨λd hd=>?_,λd hd e he h=>?_,m⟩
 ·obtain⟨z,hz,rfl⟩:=(m d).mp hd;exact WG ((ok z hz).l100 h6)
 ·obtain⟨z,hz,rfl⟩:=(m d).mp hd;obtain⟨y,hy,rfl⟩:=(m e).mp he;rw[FN inc hz hy h]
theorem Nd{hs:List Str}(h6:hs.length<=6){R:List Row}(inc:Inc R)(ok:∀z∈R,fB hs z){T:List De}(lT:T.length<=63)(mem:∀d,d∈T↔d∈R.map (·.d)){os:List Dd}(o:lI R os){l:Nat}{h:PH}(g:h[l]?=some (.lst (T.map deV)))(Q:PV->PH->Prop)
  (k:∀l' h',Ext h h'->h'[l']?=some (.lst (os.map dP))->Q (.ref l') h'):(dB [.ref l] h).W Q:=by
 obtain⟨t1,t2,t3⟩:=U8 h6 inc ok mem;rw[Ii]at g;refine lH (T.map dD) t1 (by rw[af];exact lT) t2 l h g Q λos' l' h' x' g' n' m' b'=>?_;have:os'=os:=lI.one (R:=R) ⟨n',λd=>(m' d).trans (t3 d),b'⟩ o;subst this;exact k l' h' x' g'
def nI(M:Int)(d:Dd):Bool:=decide (1+tot d.seen<=M)
def zA(S:Seen)(nm:Str×Int):Bool:=match look S nm.1 with|some n=>decide (nm.2<=n)|none=>false
theorem JP(S:Seen)(nm:Str×Int)(h:PH):iN [sv S,pv nm] h=.ok (.bl (zA S nm)) h:=by
 have w:(iN [sv S,pv nm] h).W λq h'=>q=.bl (zA S nm)/\h'=h:=by
  refine eY ?_;unfold xI;rw[aL];refine M3 (xs:=S.map pv) (λq δ h'=>h'=h/\look (S.drop q) nm.1=look S nm.1/\∃x2 x3,δ=[some (sv S),some (pv nm),x2,x3]) (.inl (by simp[Ib])) ⟨rfl,rfl,_,_,rfl⟩ ?_ ?_
  ·rintro q x δ h' hx ⟨rfl,hk,x2,x3,rfl⟩;rw[au]at hx;obtain⟨p,hp,rfl⟩:=bc.mp hx;have hd:S.drop q=p::S.drop (q+1):=by
    obtain⟨hl,e⟩:=ab.mp hp;rw[j6 hl,e]
   rw[hd,fN]at hk;refine⟨_,by simp[pv];rfl,?_⟩;unfold xH
   by_cases e:p.1=nm.1
   ·rw[if_pos e]at hk;simp[pv,e,zA];rw[<-hk]
   ·rw[if_neg e]at hk;simp[pv,e];exact hk
  ·rintro δ h' ⟨rfl,hk,x2,x3,rfl⟩;refine now ?_;rw[af,oe]at hk;simp[<-hk,look,zA]
 obtain⟨q,h',e,rfl,rfl⟩:=gH w;exact e
def uE(R:List Row)(x:Str):Option Row:=(R.filter λz=>hB x z.d).getLast?
def qK(hs:List Str)(R:List Row)(p:Str×Int)(x:Str):Bool:=match uE R x with
 |none=>false
 |some z=>decide (p.2<=z.c.getD (hs.idxOf p.1) 0)
theorem Qy{hs:List Str}{R:List Row}{x:Str}{v:PV}(a:N0 hs R x v):∃S,v=sv S/\∀p:Str×Int,p.1∈hs->1<=p.2->zA S p=qK hs R p x:=by
 have a:match uE R x with|none=>v=.tup []|some z=>∃S,v=sv S/\cU hs z.c S:=a
 cases e:uE R x with
 |none=>
  rw[e]at a;refine⟨[],a,λp _ _=>?_⟩;unfold qK;rw[e];rfl
 |some z=>
  rw[e]at a;obtain⟨S,rfl,so⟩:=a;refine⟨S,rfl,λp h1 h2=>?_⟩;unfold zA qK;rw[so.lk,e];unfold lF
  by_cases q:0<z.c.getD (hs.idxOf p.1) 0
  ·rw[if_pos ⟨h1,q⟩]
  ·rw[if_neg λw=>q w.2]
   symm
   dsimp only;rw[decide_eq_false_iff_not];omega
def allB(hs:List Str)(R:List Row)(p:Str×Int):Bool:=hs.all (qK hs R p)
noncomputable def bnd(hs:List Str)(T:List De):Int:=jI (hs.map λx=>stV (maxD ((T.filter λd=>acB d.ac).filter λd=>decide (d.nm.1=x))))
theorem DP{hs:List Str}{R:List Row}:∀{vs:List PV}(P:Nat->Str->Seen->Prop),(∀(i:Nat)(v:PV),vs[i]?=some v->∃x S,hs[i]?=some x/\v=sv S/\P i x S)->∃Ss:List Seen,vs=Ss.map sv/\∀(i:Nat)(S:Seen),Ss[i]?=some S->∃x S',hs[i]?=some x/\sv S=sv S'/\P i x S'
 |[],_,_=>⟨[],rfl,λi S h=>by simp at h⟩
 |v::vs,P,h=>by
  obtain⟨x,S,hx,rfl,hp⟩:=h 0 v rfl;cases hs with
  |nil=>simp at hx
  |cons y hs=>
   obtain⟨Ss,e,q⟩:=DP (hs:=hs) (R:=R) (vs:=vs) (λi=>P (i+1)) λi u hu=>by
    obtain⟨x',S',h1,h2,h3⟩:=h (i+1) u (by simpa using hu)
    exact⟨x',S',by simpa using h1,h2,h3⟩
   refine⟨S::Ss,by rw[e];rfl,λi S' hi=>?_⟩;cases i with
   |zero=>
    simp at hi;subst hi;exact⟨x,S,hx,rfl,hp⟩
   |succ i=>
    obtain⟨x',S'',h1,h2,h3⟩:=q i S' (by simpa using hi)
    exact⟨x',S'',by simpa using h1,h2,h3⟩
theorem U9{S T:Seen}(h:sv S=sv T):S=T:=by
 have h:S.map pv=T.map pv:=PV.tup.inj h;exact(List.map_inj_right λa b e=>sR e).mp h
theorem lI.ok{hs:List Str}(h6:hs.length<=6){R:List Row}(ok:∀z∈R,fB hs z){os:List Dd}(o:lI R os){d:Dd}(h:d∈os):d.seen.length<=100/\d.nm.1∈hs/\1<=d.nm.2:=by
 obtain⟨z,hz,rfl⟩:=(o.me d).mp h;obtain⟨w,c0,hw,lc,c1,ec,en,so⟩:=(ok z hz).ex;refine⟨(ok z hz).l100 h6,?_,?_⟩
 ·show z.d.nm.1∈hs
  rw[en];have:hs.getD w "" = hs[w]:=by simp[hw]
  show hs.getD w "" ∈ hs
  rw[this];exact dr hw
 ·show 1<=z.d.nm.2
  rw[en]
  show 1<=c0.getD w 0+1
  omega
theorem Nf{hs:List Str}(h6:hs.length<=6){R:List Row}(ok:∀z∈R,fB hs z){T:List De}(mem:∀d,d∈T↔d∈R.map (·.d)):∀d∈T,d.sn.length<=1000:=λd hd=>by
 obtain⟨z,hz,rfl⟩:=aq.mp ((mem d).mp hd);have:=(ok z hz).l100 h6;omega
theorem lI.len{R:List Row}{os:List Dd}(o:lI R os)(inc:Inc R):os.length=R.length:=by
 have n:=Qx inc;have p:os.Perm (R.map λz=>dD z.d):=(iq (fu _ (λa b q e=>q (by rw[e])) o.nd) (fu _ (λa b q e=>q (by rw[e])) n)).mpr λd=>(o.me d).trans (by rw[aq]);rw[p.length_eq,af]
def dU(hs:List Str)(R:List Row)(M:Int)(os:List Dd):List (Str×Int):=((os.filter (nI M)).map (·.nm)).filter (allB hs R)
theorem Ij{hs:List Str}(nd:hs.Nodup)(h0:hs≠[])(h6:hs.length<=6){R:List Row}(inc:Inc R)(ok:∀z∈R,fB hs z)(lR:R.length<=60){T:List De}(lT:T.length<=63)(mem:∀d,d∈T↔d∈R.map (·.d)){os:List Dd}(o:lI R os){lh l:Nat}{h:PH}(gh:h[lh]?=some (.lst (hs.map PV.str)))(g:h[l]?=some (.lst (T.map deV)))(Q:PV->PH->Prop)
  (k:∀l' h',Ext h h'->h.length<=l'->h'[l']?=some (.lst ((dU hs R (bnd hs T) os).map pv))->Q (.ref l') h'):(xJ [.ref lh,.ref l] h).W Q:=by
 refine eY ?_;unfold FH;rw[aL];simp;refine qH h0 h6 (by omega) (Nf h6 ok mem) gh g _ λh1 x1=>?_;have lo:=o.len inc;generalize hM:jI (hs.map λx=>stV (maxD ((T.filter λd=>acB d.ac).filter λd=>decide (d.nm.1=x))))=M;have hM:bnd hs T=M:=hM;rw[hM]at k;refine now ?_;rw[aL];obtain⟨p2,h2,e2,l2,rfl,x2,g2⟩:=gH (Nd h6 inc ok lT mem o (x1 _ _ g) (λp h'=>∃l,p=.ref l/\Ext h1 h'/\h'[l]?=some (.lst (os.map dP))) λl h' y g=>⟨l,rfl,y,g⟩);rw[pL];refine qI (ys:=os) (emb:=dP) (nI M) (λd=>pv d.nm) (cW (by rw[wB];simp[e2]) g2) (cH g2) (by omega) (λd hd=>⟨_,rfl,λh3 x3 Q3 k3=>?_,λh3 x3=>by simp[bX,dP0]⟩) λl3 h3 x3 _ g3=>?_
 ·simp[bX];refine mK d (o.ok h6 ok hd).1 _ _ λh5 x5=>?_;simp;exact k3 _ x5
 refine now ?_;rw[aL,pL];have y3:=(x1.trans x2).trans x3;refine BY (λi v=>∃x S,hs[i]?=some x/\v=sv S/\∀p:Str×Int,p.1∈hs->1<=p.2->zA S p=qK hs R p x) (cW (by simp) (y3 _ _ gh)) (cH (y3 _ _ gh)) (by rw[af];omega) (λi v hv=>?_) λl4 h4 vs x4 _ lv g4 ov=>?_
 ·rw[au]at hv;obtain⟨x,hx,rfl⟩:=bc.mp hv;refine⟨_,rfl,λh5 x5 Q5 k5=>?_⟩;simp[bX];refine N1 nd h6 inc ok (by omega) mem x (x5 _ _ (y3 _ _ g)) _ λv h6' x6 dv=>?_;obtain⟨S,eS,hS⟩:=Qy dv;exact k5 v h6' x6 ⟨x,S,hx,eS,hS⟩
 refine now ?_;rw[af]at lv;obtain⟨Ss,rfl,oS⟩:=DP (R:=R) (λi x S=>∀p:Str×Int,p.1∈hs->1<=p.2->zA S p=qK hs R p x) ov;rw[af]at lv;rw[kL];have g3':=x4 _ _ g3;have e3:((os.filter (nI M)).map λd=>pv d.nm)=((os.filter (nI M)).map (·.nm)).map pv:=by rw[cu];rfl
 rw[e3]at g3';refine qI (ys:=(os.filter (nI M)).map (·.nm)) (emb:=pv) (allB hs R) pv (cW (by simp) g3') (cH g3') ?_ (λp hp=>⟨_,rfl,λh5 x5 Q5 k5=>?_,λh5 x5=>by simp[bX]⟩) λl6 h6' x6 l6' g6=>?_
 ·rw[af];have:=fh (nI M) os;omega
 ·obtain⟨d,hd,rfl⟩:=aq.mp hp;obtain⟨_,d2,d3⟩:=o.ok h6 ok (ay.mp hd).1;have g4':=x5 _ _ g4;have hc:=cX (m:=mV 1) (n:=l4) (js:=[none,some 0]) (tg:=gN 0) (tst:=fK) (elt:=aY 2 iN (aB (mV 0) (aB (mV 1) aI))) (δ:=[some (pv d.nm),some (.ref l4)]) (h:=h5) (h1:=h5) (ys:=Ss) (emb:=sv)
   (λS=>some (.bl (zA S d.nm))) (by simp) g4' (by omega) (λS hS=>⟨_,rfl,λh7 x7=>⟨rfl,by simp[bX,JP]⟩⟩)
  rw[filterMap_some]at hc;have eb:(Ss.map λS=>PV.bl (zA S d.nm))=(hs.map (qK hs R d.nm)).map PV.bl:=by
   rw[cu];refine i3 λi=>?_;rw[au,au];cases e:Ss[i]? with
   |none=>
    have:hs[i]?=none:=by
     rw[j5]at e⊢;omega
    rw[this];rfl
   |some S=>
    obtain⟨x,S',hx,es,hS⟩:=oS i S e;rw[U9 es,hx];simp only[Option.map_some,Function.comp];rw[hS d.nm d2 d3]
  rw[eb]at hc;have g8:(h5++[MO.lst ((hs.map (qK hs R d.nm)).map PV.bl)])[h5.length]?=some (.lst ((hs.map (qK hs R d.nm)).map PV.bl)):=aK;have x8:Ext h5 (h5++[MO.lst ((hs.map (qK hs R d.nm)).map PV.bl)]):=Ext.app _ _;have va:=Mc g8;have ea:(hs.map (qK hs R d.nm)).all id=allB hs R d.nm:=by rw[List.all_map];rfl
  rw[ea]at va;have k5:=k5 _ x8;generalize h5++[MO.lst ((hs.map (qK hs R d.nm)).map PV.bl)]=h8 at hc va k5;simp[bX]at hc⊢;rw[hc,kK,va];simp;exact k5
 ·exact k l6 h6' ((y3.trans x4).trans x6) (df (y3.trans x4).len l6') g6
structure InF(R:List Row)(out:List Dd):Prop where
 nd:(out.map (·.nm)).Nodup
 br:oK out
 ex:∃L:List Dd,(L.map (·.nm)).Nodup/\qJ L/\(∀d,d∈L ↔ ∃z∈R,dD z.d=d)/\∀d,d∈out↔(∃z∈R,dD z.d=d)/\¬ TkL L d.nm
theorem InF.one{R:List Row}{a b:List Dd}(x:InF R a)(y:InF R b):a=b:=by
 obtain⟨F,f0,f1,f2,f3⟩:=x.ex;obtain⟨G,g0,g1,g2,g3⟩:=y.ex;have e:=Nb f0 g0 f1 g1 λd=>(f2 d).trans (g2 d).symm;subst e;exact xR x.nd y.nd x.br y.br λd=>(f3 d).trans (g3 d).symm
theorem xS{hs:List Str}(h6:hs.length<=6){R:List Row}(inc:Inc R)(ok:∀z∈R,fB hs z){T:List De}(lT:T.length<=63)(mem:∀d,d∈T↔d∈R.map (·.d)){l:Nat}{h:PH}(g:h[l]?=some (.lst (T.map deV)))(Q:PV->PH->Prop)
  (k:∀out l' h',Ext h h'->h'[l']?=some (.lst (out.map dP))->InF R out->Q (.ref l') h'):(dC [.ref l] h).W Q:=by
 obtain⟨t1,t2,t3⟩:=U8 h6 inc ok mem;rw[Ii]at g;refine DO (T.map dD) t1 (by rw[af];exact lT) t2 l h g Q λout L l' h' x' g' f b'=>?_;exact k out l' h' x' g' ⟨f.nd,b',L,f.ln,f.fall,λd=>(f.mem d).trans (t3 d),λd=>by rw[f.out d,t3 d]⟩
theorem InF.sub{R:List Row}{out:List Dd}(x:InF R out){d:Dd}(h:d∈out):∃z∈R,dD z.d=d:=by
 obtain⟨F,f0,f1,f2,f3⟩:=x.ex;exact((f3 d).mp h).1
theorem InF.len{R:List Row}{out:List Dd}(x:InF R out):out.length<=R.length:=by
 have h1:(out.map (·.nm)).length<=(R.map λz=>z.d.nm).length:=i7 x.nd λp hp=>by
  obtain⟨d,hd,rfl⟩:=aq.mp hp;obtain⟨z,hz,rfl⟩:=x.sub hd;exact aq.mpr ⟨z,hz,rfl⟩
 simpa using h1
theorem FO{hs:List Str}(h0:hs≠[])(h6:hs.length<=6){R:List Row}(inc:Inc R)(ok:∀z∈R,fB hs z)(lR:R.length<=60){T:List De}(lT:T.length<=63)(mem:∀d,d∈T↔d∈R.map (·.d)){out:List Dd}(o:InF R out){lh l:Nat}{h:PH}(gh:h[lh]?=some (.lst (hs.map PV.str)))(g:h[l]?=some (.lst (T.map deV)))(Q:PV->PH->Prop)
  (k:∀l' h',Ext h h'->h.length<=l'->h'[l']?=some (.lst ((out.filter (nI (bnd hs T))).map dP))->Q (.ref l') h'):(mI [.ref lh,.ref l] h).W Q:=by
 refine eY ?_;unfold sP;rw[aL];simp;refine qH h0 h6 (by omega) (Nf h6 ok mem) gh g _ λh1 x1=>?_;generalize hM:jI (hs.map λx=>stV (maxD ((T.filter λd=>acB d.ac).filter λd=>decide (d.nm.1=x))))=M;have hM:bnd hs T=M:=hM;rw[hM]at k;refine now ?_;rw[kL];obtain⟨p2,h2,e2,l2,rfl,x2,g2⟩:=gH (xS h6 inc ok lT mem (x1 _ _ g) (λp h'=>∃l,p=.ref l/\Ext h1 h'/\h'[l]?=some (.lst (out.map dP))) λout' l h' y g o'=>⟨l,rfl,y,by rw[o.one o'];exact g⟩);have lo:=o.len;refine qI (ys:=out) (emb:=dP) (nI M) dP (cW (by rw[wB];simp[e2]) g2) (cH g2) (by omega) (λd hd=>⟨_,rfl,λh3 x3 Q3 k3=>?_,λh3 x3=>by simp[bX]⟩) λl3 h3 x3 l3' g3=>?_
 ·obtain⟨z,hz,rfl⟩:=o.sub hd;simp[bX];refine mK (dD z.d) ((ok z hz).l100 h6) _ _ λh5 x5=>?_;simp;exact k3 _ x5
 ·exact k l3 h3 ((x1.trans x2).trans x3) (df (x1.trans x2).len l3') g3
theorem U'(ps:List (Str×Int)):(ps.map pv).all (PV.pl 39)=true:=by
 rw[bz];intro x hx;obtain⟨p,_,rfl⟩:=aq.mp hx;rfl
theorem Ng{R:List Row}{xs:List Dd}(h:∀d∈xs,∃z∈R,dD z.d=d):(xs.map dP).all (PV.pl 39)=true:=by
 rw[bz];intro x hx;obtain⟨d,hd,rfl⟩:=aq.mp hx;obtain⟨z,_,rfl⟩:=h d hd;exact WH
def tv(n:Nat)(c:List Int):Int:=((av n).map λk=>c.getD k 0).sum
theorem qL(n:Nat)(c:List Int):tv (n+1) c=tv n c+c.getD n 0:=by
 unfold tv;rw[List.range_succ,c7,List.sum_append];simp
theorem Ik{a b:List Int}:∀n,(∀k,k<n->a.getD k 0<=b.getD k 0)->tv n a<=tv n b
 |0,_=>by simp[tv]
 |n+1,h=>by
  have h1:=Ik n λk hk=>h k (by omega);have h2:=h n (by omega);rw[qL,qL];omega
theorem Sj{a b:List Int}{w:Nat}:∀n,w<n->(∀k,k<n->a.getD k 0<=b.getD k 0)->a.getD w 0<b.getD w 0->tv n a<tv n b
 |0,h,_,_=>by omega
 |n+1,hw,h,hl=>by
  have h2:=h n (by omega);rw[qL,qL]
  by_cases e:w=n
  ·subst e;have h1:=Ik w λk hk=>h k (by omega);omega
  ·have h1:=Sj n (by omega) (λk hk=>h k (by omega)) hl;omega
theorem Il(hs:List Str)(c:List Int)(nn:∀k,0<=c.getD k 0):∀ks:List Nat,((ks.filterMap (prs hs c)).map (·.2)).sum=(ks.map λk=>c.getD k 0).sum
 |[]=>rfl
 |k::ks=>by
  rw[dj,a8,o5,<-Il hs c nn ks];unfold prs
  by_cases e:0<c.getD k 0
  ·simp only[if_pos e,a8,o5]
  ·simp only[if_neg e];have:=nn k;omega
theorem Nh{a b:List Int}(p:a.Perm b):a.sum=b.sum:=by
 induction p with
 |nil=>rfl
 |cons x _ ih=>rw[o5,o5,ih]
 |swap x y l=>simp only[o5];omega
 |trans _ _ h1 h2=>exact h1.trans h2
theorem cU.tot{hs:List Str}(nd:hs.Nodup){c:List Int}(nn:∀k,0<=c.getD k 0){S:Seen}(a:cU hs c S):tot S=tv hs.length c:=by
 have nS:=fO a.asc;have nP:=MZ (c:=c) nd;have p:S.Perm ((av hs.length).filterMap (prs hs c)):=by
  rw[iq (fu _ (λa b q e=>q (by rw[e])) nS) (fu _ (λa b q e=>q (by rw[e])) nP)];intro q;rw[Ic nd (x:=q.1) (n:=q.2),<-a.lk];exact⟨λh=>iP nS h,λh=>qF h⟩
 show(S.map (·.2)).sum=_
 unfold tv;rw[<-Il hs c nn];exact Nh (p.map (·.2))
theorem Ni(c:Int)(h:PH):∃n,pZ [.int c,.int 1] h=.ok (.int n) h:=by
 have w:(pZ [.int c,.int 1] h).W λp h'=>∃n,p=.int n/\h'=h:=by
  refine eY ?_;unfold BO;rw[aL,pM];have last:∀E:FE,(∀n,E.rt (.int n) h)->Lt (aW (bK 2 (aD gE (aD Bp (aD bH (aD bH (mV 0) (aD Bp (mC (.int 7919)) (mV 1))) (mC (.int 1))) (mC (.int 48271))) (mC (.int 2147483647))))
   (cA (aD gE (aD Bp (mV 2) (aD bH (aD nB (mV 2) (mC (.int 1009))) (mC (.int 69621)))) (mC (.int 2147483647))))) E [some (.int c),some (.int 1),none] h:=λE k=>by
   refine now ?_;rw[aL];simp(disch:=omega);have b1:=ic ((c+7919+1)*48271) (b:=2147483647) (by omega);have b2:=ie ((c+7919+1)*48271) (b:=2147483647) (by omega);generalize (c+7919+1)*48271%2147483647=f at b1 b2;refine now ?_;simp(disch:=omega);exact k _
  have p9:(0:Int)<10 ^ (9:Int).toNat:=by decide +kernel
  generalize hq:(10:Int) ^ (9:Int).toNat=P at p9;simp(disch:=first|omega|exact p9) [hq]
  split
  ·intro _;exact last _ λn=>⟨⟨n,rfl⟩,rfl⟩
  ·exact last _ λn=>⟨⟨n,rfl⟩,rfl⟩
 obtain⟨p,h',e,n,rfl,rfl⟩:=gH w;exact⟨n,e⟩
theorem Ua(way many c:Int)(h:PH)(Q:PV->PH->Prop)(k:∀a:Ac,Q (acV a) h):(DF [.int way,.int many,.int c] h).W Q:=by
 refine eY ?_;unfold MP;rw[aL];obtain⟨N,eN⟩:=Ni c h;simp[eN];refine now ?_;rw[aL,pM];have last:∀x4:Option PV,Lt (cA (jC (aB (mC (.str "add")) (aB (jC (aB (mC (.str "t")) (aB (mC (.int 1)) aI))) (aB (aD gE (mV 2) (aD LG (mC (.int 10)) (mC (.int 39)))) aI))))) { nx:=λ_ h=>Q .non h,rt:=Q } [some (.int way),some (.int many),some (.int c),some (.int N),x4] h:=λx4=>by
  refine now ?_;have p39:(0:Int)<10 ^ (39:Int).toNat:=by decide +kernel
  simp(disch:=first|omega|exact p39)
  exact k (.add _)
 by_cases e1:way<2
 ·simp[e1];exact k .settle
 ·simp[e1];refine now ?_;rw[aL,pM]
  by_cases e2:way=2
  ·by_cases e3:0<many
   ·simp[e2,e3];rw[aL];simp(disch:=omega);have b1:=ic N (b:=many) (by omega);have b2:=ie N (b:=many) (by omega);generalize N%many=f at b1 b2;refine now ?_;simp(disch:=omega);exact k (.back _ _)
   ·simp[e2,e3];have:=last none;rw[e2]at this;exact this
  ·simp[e2];exact last none
theorem cY{α:Type}(xs:List α)(i j:Nat)(v d:α)(hi:i<xs.length):(xs.set i v).getD j d=if i=j then v else xs.getD j d:=by
 by_cases e:i=j
 ·subst e;simp[hi]
 ·rw[if_neg e];simp[bg e]
theorem Im(z:Str)(n:Int):(Txt.mul z n).length=z.length*n.toNat:=by
 have h:=PyProof.Rows.len_mul z n
 by_cases h0:n<0
 ·rw[if_pos (by simpa using h0)]at h
  have:n.toNat=0:=by omega
  rw[this];omega
 ·rw[if_neg (by simpa using h0)]at h
  have e:((n.toNat:Nat):Int)=n:=by omega
  have h2:((Txt.mul z n).length:Int)=((z.length*n.toNat:Nat):Int):=by rw[h,Int.natCast_mul,e]
  exact Int.ofNat.inj h2
abbrev tk:Str:="k"
theorem FP:tk.length=1:=by decide +kernel
theorem Nj{n:Int}(h0:0<=n)(h1:n<=8)(h:PH):Jm (.str tk) (.int n) h=.ok (.str (Txt.mul tk n)) h:=by
 simp only[Jm];rw[if_pos ⟨by rw[FP];omega,by omega,by omega⟩]
def hnd(a b:Str)(i:Int):Str:=a++⟨#[97+i.toNat]⟩++b
theorem Qz{a b:Str}{i j:Int}(hi:0<=i)(hj:0<=j)(h:hnd a b i=hnd a b j):i=j:=by
 have e:=congrArg (λz:Str=>z.cps.toList) h;simp only[hnd,app_list]at e;have e1:=List.append_cancel_left (List.append_cancel_right e);have e2:[97+i.toNat]=[97+j.toNat]:=e1;have e3:=List.cons.inj e2;omega
theorem Nk{c s:Int}(hs:1<=s/\s<=8){i j:Nat}(hi:i<j)(hj:j<6)(h:(c+i*s)%26=(c+j*s)%26):False:=by
 obtain⟨d,rfl⟩:∃d,j=i+d:=⟨j-i,by omega⟩;have e:((i+d:Nat):Int)*s=i*s+d*s:=by rw[Int.natCast_add,Int.add_mul]
 rw[e]at h;generalize (i:Int)*s=a at h;have e2:((d:Int)*s)%26=0:=by omega
 have cd:d=1\/d=2\/d=3\/d=4\/d=5:=by omega
 rcases cd with rfl|rfl|rfl|rfl|rfl <;> simp at e2 <;> omega
def zB(A B:Str)(c s:Int)(q:Nat):List Str:=(av q).map λ(i:Nat)=>hnd A B ((c+(i:Int)*s)%26)
theorem JQ(A B:Str)(c s:Int)(q:Nat):zB A B c s (q+1)=zB A B c s q++[hnd A B ((c+(q:Int)*s)%26)]:=by simp[zB,List.range_succ]
theorem QA(A B:Str)(c s:Int)(hs:1<=s/\s<=8){n:Nat}(hn:n<=6):(zB A B c s n).Nodup:=by
 unfold zB;refine dt.mpr ?_;refine List.Pairwise.imp_of_mem (λ{i j} hi hj ne e=>?_) (List.nodup_range (n:=n));have h1:=e8.mp hi;have h2:=e8.mp hj;have e:=Qz (ic _ (by decide)) (ic _ (by decide)) e;rcases Nat.lt_or_gt_of_ne ne with z|z
 ·exact Nk hs z (by omega) e
 ·exact Nk hs z (by omega) e.symm
theorem Nl(c:Int)(h:PH)(Q:PV->PH->Prop)(k:∀(hs:List Str) (l:Nat) h',Ext h h'->h.length<=l->1<=hs.length/\hs.length<=6->hs.Nodup->h'[l]?=some (.lst (hs.map PV.str))->Q (.ref l) h'):(uX [.int c] h).W Q:=by
 refine eY ?_;unfold BM;rw[aL];simp(disch:=omega);refine now ?_;rw[aL];simp(disch:=omega);refine now ?_;rw[aL];simp;have x0:Ext h (h++[MO.lst []]):=Ext.app _ _;have g0:(h++[MO.lst []])[h.length]?=some (.lst (([]:List Str).map PV.str)):=aK;generalize h++[MO.lst []]=hA at x0 g0;have ha:0<=c/8%(1+c%8)/\c/8%(1+c%8)<1+c%8:=⟨ic _ (by omega),ie _ (by omega)⟩;generalize c/8%(1+c%8)=a at ha;have hb:0<=1+c%8-1-a/\1+c%8-1-a<=8/\a<=8:=by omega
 generalize eA:Txt.mul tk a=A;generalize eB:Txt.mul tk (1+c%8-1-a)=B;have lA:A.length<=8:=by rw[<-eA,Im,FP];omega
 have lB:B.length<=8:=by rw[<-eB,Im,FP];omega
 refine now ?_;rw[aL];refine LZ (j:=1+c/5%6) (λq δ h'=>Ext h h'/\h'[h.length]?=some (.lst ((zB A B (c/64) (1+c/3%8) q).map PV.str))/\∃x4 x5,δ=[some (.int c),some (.int (1+c%8)),some (.int a),some (.ref h.length),x4,x5]) (by simp(disch:=omega)) (by omega) ⟨x0,g0,_,_,rfl⟩ ?_ ?_
 ·rintro q δ h' hq ⟨x1,g1,x4,x5,rfl⟩;unfold Ax;rw[aL];have hi:0<=(c/64+(q:Int)*(1+c/3%8))%26/\(c/64+(q:Int)*(1+c/3%8))%26<26:=⟨ic _ (by decide),ie _ (by decide)⟩;have al:=Qj hi.1 hi.2;have vi:vIx (.str MV) (.int ((c/64+(q:Int)*(1+c/3%8))%26)) h'=.ok (.str ⟨#[97+((c/64+(q:Int)*(1+c/3%8))%26).toNat]⟩) h':=by rw[PM (by rw[JK];omega),al];rfl
  have es:=JQ A B (c/64) (1+c/3%8) q;have lq:(zB A B (c/64) (1+c/3%8) q).length=q:=by simp[zB]
  simp(disch:=omega) [vi];refine now ?_;have r1:=Nj (n:=a) ha.1 hb.2.2 h';have r2:=Nj (n:=1+c%8-1-a) hb.1 hb.2.1 h';rw[eA]at r1;rw[eB]at r2;have p1:∀x:Nat,bH (.str A) (.str ⟨#[x]⟩) h'=.ok (.str (A++⟨#[x]⟩)) h':=λx=>Ad (by show A.length+1<=_;omega);have p2:∀x:Nat,bH (.str (A++⟨#[x]⟩)) (.str B) h'=.ok (.str (A++⟨#[x]⟩++B)) h':=λx=>Ad (by rw[MY];omega);have ap:=gJ (p:=PV.str (hnd A B ((c/64+(q:Int)*(1+c/3%8))%26))) g1 (by rw[af,lq];omega);unfold hnd at ap es;have il:=jE g1;generalize (c/64+(q:Int)*(1+c/3%8))%26=j at ap al hi es vi;simp[il,r1,r2,p1,p2,ap];refine⟨x1.setN (ak _),?_⟩;rw[eC g1,es,c7];rfl
 ·rintro δ h' ⟨x1,g1,x4,x5,rfl⟩;refine now ?_;have hm:1<=(1+c/5%6).toNat/\(1+c/5%6).toNat<=6:=by omega
  generalize (1+c/5%6).toNat=m at g1 hm;have lq:(zB A B (c/64) (1+c/3%8) m).length=m:=by simp[zB]
  have nd:=QA A B (c/64) (1+c/3%8) (by omega) hm.2;simp;exact k _ _ _ x1 (ak _) (by rw[lq];exact hm) nd g1
theorem QB{p q:Dd}(h:bM (nmL p) (nmL q)=false)(e:p.nm.1=q.nm.1)(n:p.nm≠q.nm):q.nm.2<p.nm.2:=by
 unfold nmL at h;have n2:p.nm.2≠q.nm.2:=λz=>n (Prod.ext e z);have h1:bM [.inr p.nm.1,.inl p.nm.2] [.inr q.nm.1,.inl q.nm.2]=decide (p.nm.2<q.nm.2):=by
  unfold bM;rw[if_pos (by rw[e])];unfold bM;rw[if_neg (λz=>n2 (Sum.inl.inj z))];rfl
 rw[h1]at h;have:=of_decide_eq_false h;omega
theorem qM{L:List Dd}{w:Str}{x:HD}:x∈ofH w (L.map tri) ↔ ∃d∈L,d.nm.1=w/\hdD d=x:=by
 unfold ofH;rw[aq];constructor
 ·rintro⟨y,hy,rfl⟩;obtain⟨h1,h2⟩:=ay.mp hy;obtain⟨d,hd,rfl⟩:=aq.mp h1;exact⟨d,hd,of_decide_eq_true h2,rfl⟩
 ·rintro⟨d,hd,e,rfl⟩;exact⟨tri d,ay.mpr ⟨aq.mpr ⟨d,hd,rfl⟩,decide_eq_true e⟩,rfl⟩
theorem xT{w:Str}:∀{L:List Dd},(L.map (·.nm)).Nodup->qJ L->DL (ofH w (L.map tri))
 |[],_,_=>.nil
 |d::L,nd,hf=>by
  replace hf:=dh.mp hf
  rw[a8,gz]at nd;have ih:=xT (w:=w) nd.2 hf.2;unfold ofH;rw[a8,fi];split
  ·rename_i z;rw[a8];refine dh.mpr ⟨λx hx=>?_,ih⟩;obtain⟨e,he,e1,rfl⟩:=qM.mp hx;have e2:d.nm.1=w:=of_decide_eq_true z;exact QB (hf.1 e he) (e2.trans e1.symm) λzz=>nd.1 (aq.mpr ⟨e,he,zz.symm⟩)
  ·exact ih
theorem Ub{F G:List HD}(hF:DL F)(hG:DL G)(h:∀x,x∈F↔x∈G):F=G:=by
 have nF:F.Nodup:=hF.imp λh e=>by rw[e]at h;omega
 have nG:G.Nodup:=hG.imp λh e=>by rw[e]at h;omega
 refine i8 (le:=λa b:HD=>b.1<a.1) (λa b _ _ h1 h2=>absurd h1 (by omega)) hF hG ((iq nF nG).mpr h)
theorem xU{F:List HD}(hf:DL F){c:Int}{k:Kd}(h:(c,k)∈F):∃P Q,F=P++(c,k)::Q/\DL Q/\∀x,x∈Q↔x∈F/\x.1<c:=by
 obtain⟨P,Q,rfl⟩:=List.append_of_mem h;have h1:=ik.mp hf;have h2:=dh.mp h1.2.1;refine⟨P,Q,rfl,h2.2,λx=>⟨λhx=>⟨ao _ (aj _ hx),h2.1 x hx⟩,λ⟨hx,hl⟩=>?_⟩⟩;rcases bh.mp hx with hx|hx
 ·have:=h1.2.2 x hx (c,k) ai;simp only at this;omega
 ·rcases ba.mp hx with rfl|hx
  ·simp only at hl;omega
  ·exact hx
theorem QC{F G:List HD}(hF:DL F)(hG:DL G){c n:Int}(h1:(c,.settle)∈F)(h2:(c,.settle)∈G)(hm:∀x:HD,x.1<c->(x∈F↔x∈G))(hn:n<=c):tkH F [] n↔tkH G [] n:=by
 obtain⟨P,Q,rfl,fQ,mQ⟩:=xU hF h1;obtain⟨P',Q',rfl,fQ',mQ'⟩:=xU hG h2;have e:Q=Q':=Ub fQ fQ' λx=>by
  rw[mQ,mQ'];constructor
  ·rintro⟨a,b⟩;exact⟨(hm x b).mp a,b⟩
  ·rintro⟨a,b⟩;exact⟨(hm x b).mpr a,b⟩
 subst e;rw[AF hF hn,AF hG hn]
def mxs(n:Nat)(c f:List Int):List Int:=(av n).map λk=>if f.getD k 0>c.getD k 0 then f.getD k 0 else c.getD k 0
theorem gO(n:Nat)(c f:List Int)(w:Nat):(mxs n c f).getD w 0=if w<n then(if f.getD w 0>c.getD w 0 then f.getD w 0 else c.getD w 0) else 0:=by
 unfold mxs
 by_cases h:w<n
 ·rw[if_pos h];simp[h]
 ·rw[if_neg h];simp[h]
def Lv(n:Nat)(a b:List Int):Prop:=∀v,v<n->a.getD v 0<=b.getD v 0
structure VOk(hs:List Str)(R:List Row)(T c:List Int):Prop where
 len:c.length=hs.length
 nn:∀v,0<=c.getD v 0
 le:Lv hs.length c T
 cl:∀z∈R,∀w,w<hs.length->z.d.nm.1=hs.getD w "" -> z.d.nm.2<=c.getD w 0->Lv hs.length z.c c
structure RIs(hs:List Str)(R:List Row)(T:List Int)(z:Row):Prop where
 pre:∃w c0,w<hs.length/\VOk hs R T c0/\z.c=c0.set w (c0.getD w 0+1)/\z.d.nm=(hs.getD w "",c0.getD w 0+1)/\cU hs c0 z.d.sn
 vok:VOk hs R T z.c
structure HS(hs:List Str)(R:List Row)(T:List Int):Prop where
 rw:∀z∈R,RIs hs R T z
 inc:Inc R
 len:T.length=hs.length
theorem FQ{hs:List Str}(nd:hs.Nodup){v w:Nat}(hv:v<hs.length)(hw:w<hs.length)(e:hs.getD v "" = hs.getD w ""):v=w:=by
 have e1:hs.getD v "" = hs[v]:=by simp[hv]
 have e2:hs.getD w "" = hs[w]:=by simp[hw]
 rw[e1,e2]at e;exact(List.getElem_inj nd).mp e
theorem RIs.ok{hs:List Str}{R:List Row}{T:List Int}{z:Row}(i:RIs hs R T z):fB hs z:=by
 obtain⟨w,c0,hw,v0,ec,en,so⟩:=i.pre;exact⟨i.vok.len,w,c0,hw,v0.len,v0.nn w,ec,en,so⟩
theorem RIs.hand{hs:List Str}{R:List Row}{T:List Int}{z:Row}(i:RIs hs R T z):z.d.nm.1∈hs:=by
 obtain⟨w,c0,hw,v0,ec,en,so⟩:=i.pre;rw[en]
 show hs.getD w "" ∈ hs
 have:hs.getD w "" = hs[w]:=by simp[hw]
 rw[this];exact dr hw
theorem RIs.c0{hs:List Str}{R:List Row}{T:List Int}{z:Row}{w:Nat}{c0:List Int}(hw:w<hs.length)(v0:VOk hs R T c0)(ec:z.c=c0.set w (c0.getD w 0+1))(v:Nat):z.c.getD v 0=if w=v then c0.getD w 0+1 else c0.getD v 0:=by
 rw[ec,cY _ _ _ _ _ (by rw[v0.len];exact hw)]
theorem HS.lt{hs:List Str}(nd:hs.Nodup){R:List Row}{T:List Int}(i:HS hs R T){y z:Row}(hy:y∈R)(hz:z∈R)(e:y.d.nm.1=z.d.nm.1)(l:y.d.nm.2<z.d.nm.2):(∃c0,VOk hs R T c0/\cU hs c0 z.d.sn/\Lv hs.length y.c c0)/\gP y.d<gP z.d:=by
 obtain⟨w,c0,hw,v0,ec,en,so⟩:=(i.rw z hz).pre;obtain⟨u,b0,hu,u0,fc,fn,su⟩:=(i.rw y hy).pre;have l1:y.d.nm.2<=c0.getD w 0:=by
  have:z.d.nm.2=c0.getD w 0+1:=by rw[en]
  omega
 have lv:=v0.cl y hy w hw (by rw[e,en]) l1;refine⟨⟨c0,v0,so,lv⟩,?_⟩;have t1:tot y.d.sn=tv hs.length b0:=su.tot nd u0.nn;have t2:tot z.d.sn=tv hs.length c0:=so.tot nd v0.nn;have t3:tv hs.length b0<tv hs.length y.c:=Sj (w:=u) _ hu (λk hk=>by rw[RIs.c0 hu u0 fc k];split <;> rename_i z <;> first|(subst z;omega)|omega) (by rw[RIs.c0 hu u0 fc u,if_pos rfl];omega)
 have t4:=Ik hs.length lv
 show 1+tot y.d.sn<1+tot z.d.sn
 omega
theorem HS.pos{hs:List Str}(nd:hs.Nodup){R:List Row}{T:List Int}(i:HS hs R T){y:Row}(hy:y∈R):1<=gP y.d/\1<=y.d.nm.2:=by
 obtain⟨u,b0,hu,u0,fc,fn,su⟩:=(i.rw y hy).pre;have t1:tot y.d.sn=tv hs.length b0:=su.tot nd u0.nn;have t2:tv hs.length []<=tv hs.length b0:=Ik _ λk _=>by have:=u0.nn k;simpa using this
 have t3:tv hs.length []=0:=by
  have:∀n,tv n []=0:=λn=>by
   induction n with
   |zero=>rfl
   |succ n ih=>rw[qL,ih];simp
  exact this _
 have:=u0.nn u;refine⟨?_,by rw[fn];show 1<=b0.getD u 0+1;omega⟩
 show 1<=1+tot y.d.sn
 omega
theorem VOk.up{hs:List Str}(nd:hs.Nodup){R:List Row}{T c c':List Int}(lT:T.length=hs.length){w:Nat}(hw:w<hs.length)(ow:c.getD w 0=T.getD w 0)(v:VOk hs R T c'){z:Row}(en:z.d.nm=(hs.getD w "",c.getD w 0+1)):VOk hs (R++[z]) (T.set w (c.getD w 0+1)) c':=by
 have g:∀u,(T.set w (c.getD w 0+1)).getD u 0=if w=u then c.getD w 0+1 else T.getD u 0:=λu=>cY _ _ _ _ _ (by rw[lT];exact hw);refine⟨v.len,v.nn,λu hu=>?_,λy hy u hu e l=>?_⟩
 ·rw[g u];have:=v.le u hu;split
  ·rename_i q;subst q;omega
  ·exact this
 ·rcases bh.mp hy with q|q
  ·exact v.cl y q u hu e l
  ·simp at q;subst q;rw[en]at e l;have:w=u:=FQ nd hw hu e;subst this;have l:c.getD w 0+1<=c'.getD w 0:=l;have:=v.le w hw;omega
theorem HS.more{hs:List Str}(nd:hs.Nodup){R:List Row}{T c:List Int}(i:HS hs R T){w:Nat}(hw:w<hs.length)(v:VOk hs R T c)(ow:c.getD w 0=T.getD w 0){S:Seen}(so:cU hs c S)(a:Ac)(r:Nat):HS hs (R++[⟨⟨(hs.getD w "",c.getD w 0+1),S,a⟩,c.set w (c.getD w 0+1),r⟩]) (T.set w (c.getD w 0+1))/\VOk hs (R++[⟨⟨(hs.getD w "",c.getD w 0+1),S,a⟩,c.set w (c.getD w 0+1),r⟩]) (T.set w (c.getD w 0+1)) (c.set w (c.getD w 0+1)):=by
 obtain⟨z,ez⟩:∃z:Row,z=⟨⟨(hs.getD w "",c.getD w 0+1),S,a⟩,c.set w (c.getD w 0+1),r⟩:=⟨_,rfl⟩;rw[<-ez];have en:z.d.nm=(hs.getD w "",c.getD w 0+1):=by rw[ez]
 have ec:z.c=c.set w (c.getD w 0+1):=by rw[ez]
 have es:z.d.sn=S:=by rw[ez]
 clear ez;have up:∀c',VOk hs R T c'->VOk hs (R++[z]) (T.set w (c.getD w 0+1)) c':=λc' v'=>VOk.up nd i.len hw ow v' en;have num:∀y∈R,y.d.nm.1=hs.getD w "" -> y.d.nm.2<=c.getD w 0:=λy hy e=>by
  obtain⟨u,b0,hu,u0,fc,fn,su⟩:=(i.rw y hy).pre;rw[fn]at e⊢;have e:u=w:=FQ nd hu hw e;subst e;have:=(i.rw y hy).vok.le u hu;rw[RIs.c0 hu u0 fc u,if_pos rfl]at this;rw[ow];exact this
 have g:∀u,(T.set w (c.getD w 0+1)).getD u 0=if w=u then c.getD w 0+1 else T.getD u 0:=λu=>cY _ _ _ _ _ (by rw[i.len];exact hw);have gc:∀u,(c.set w (c.getD w 0+1)).getD u 0=if w=u then c.getD w 0+1 else c.getD u 0:=λu=>cY _ _ _ _ _ (by rw[v.len];exact hw);have lc:Lv hs.length c (c.set w (c.getD w 0+1)):=λu hu=>by
  rw[gc u];split
  ·rename_i q;subst q;omega
  ·exact ff _
 have vn:VOk hs (R++[z]) (T.set w (c.getD w 0+1)) (c.set w (c.getD w 0+1)):=by
  refine⟨by rw[i5];exact v.len,λu=>?_,λu hu=>?_,λy hy u hu e l=>?_⟩
  ·rw[gc u];have:=v.nn u;have:=v.nn w;split <;> omega
  ·rw[gc u,g u];have:=v.le u hu;split
   ·exact ff _
   ·exact this
  ·rcases bh.mp hy with q|q
   ·have:y.d.nm.2<=c.getD u 0:=by
     by_cases z:w=u
     ·subst z;exact num y q e
     ·rw[gc u,if_neg z]at l;exact l
    exact λx hx=>kz (v.cl y q u hu e this x hx) (lc x hx)
   ·simp at q;subst q;rw[ec];exact λx hx=>ff _
 refine⟨⟨λy hy=>?_,?_,by rw[i5];exact i.len⟩,vn⟩
 ·rcases bh.mp hy with q|q
  ·obtain⟨u,b0,hu,u0,rest⟩:=(i.rw y q).pre;exact⟨⟨u,b0,hu,up _ u0,rest⟩,up _ (i.rw y q).vok⟩
  ·simp at q;subst q;exact⟨⟨w,c,hw,up _ v,ec,en,by rw[es];exact so⟩,by rw[ec];exact vn⟩
 ·unfold Inc;rw[ik];refine⟨i.inc,by simp,λy hy x hx e=>?_⟩;simp at hx;subst hx;rw[en]at e⊢;have:=num y hy e
  show _<c.getD w 0+1
  omega
theorem VOk.max{hs:List Str}{R:List Row}{T c f:List Int}(v:VOk hs R T c)(u:VOk hs R T f):VOk hs R T (mxs hs.length c f):=by
 refine⟨by unfold mxs;simp,λk=>?_,λk hk=>?_,λy hy w hw e l=>?_⟩
 ·rw[gO];have:=v.nn k;have:=u.nn k;split
  ·split <;> assumption
  ·exact ff _
 ·rw[gO,if_pos hk];have:=v.le k hk;have:=u.le k hk;split <;> assumption
 ·rw[gO,if_pos hw]at l;intro k hk;rw[gO,if_pos hk];split at l
  ·have:=u.cl y hy w hw e l k hk;split <;> omega
  ·have:=v.cl y hy w hw e l k hk;split <;> omega
structure DQ(R Q:List Row):Prop where
 sub:∀z∈Q,z∈R
 inc:Inc Q
 dn:∀z∈Q,∀y∈R,y.d.nm.1=z.d.nm.1->y.d.nm.2<=z.d.nm.2->y∈Q
theorem Uc{hs:List Str}(D:List De){x:Str}(hx:x∈hs):bnd hs D<=stV (maxD ((D.filter λd=>acB d.ac).filter λd=>decide (d.nm.1=x))):=by
 unfold bnd;exact(kT (by intro z;rw[List.map_eq_nil_iff]at z;rw[z]at hx;simp at hx)).2 _ (aq.mpr ⟨x,hx,rfl⟩)
theorem C1{Q:List Row}{D:List De}(mem:∀d,d∈D↔d∈Q.map (·.d)){x:Str}{d:De}(e:maxD ((D.filter λd=>acB d.ac).filter λd=>decide (d.nm.1=x))=some d):(∃s∈Q,s.d=d/\s.d.nm.1=x/\acB s.d.ac=true)/\∀s∈Q,s.d.nm.1=x->acB s.d.ac=true->s.d.nm.2<=d.nm.2:=by
 obtain⟨h1,h2⟩:=sS e;obtain⟨h3,h4⟩:=ay.mp h1;obtain⟨h5,h6⟩:=ay.mp h3;obtain⟨s,hs,es⟩:=aq.mp ((mem d).mp h5);refine⟨⟨s,hs,es,by rw[es];exact of_decide_eq_true h4,by rw[es];exact h6⟩,λs hs e1 e2=>?_⟩;exact h2 s.d (ay.mpr ⟨ay.mpr ⟨(mem _).mpr (aq.mpr ⟨s,hs,rfl⟩),e2⟩,decide_eq_true e1⟩)
theorem DR{hs:List Str}{Q:List Row}{D:List De}(mem:∀d,d∈D↔d∈Q.map (·.d)){x:Str}(hx:x∈hs)(h:0<bnd hs D):∃s∈Q,s.d.nm.1=x/\acB s.d.ac=true/\bnd hs D<=gP s.d:=by
 have b:=Uc D hx;cases e:maxD ((D.filter λd=>acB d.ac).filter λd=>decide (d.nm.1=x)) with
 |none=>
  rw[e]at b;have b:bnd hs D<=0:=b;omega
 |some d=>
  rw[e]at b;obtain⟨⟨s,hs,es,e1,e2⟩,_⟩:=C1 mem e;exact⟨s,hs,e1,e2,by rw[es];exact b⟩
theorem Ud{hs:List Str}(nd:hs.Nodup)(h0:hs≠[]){R Q:List Row}{T:List Int}(i:HS hs R T)(q:DQ R Q){D:List De}(mem:∀d,d∈D↔d∈Q.map (·.d)){m:Int}(h:∀x∈hs,∃s∈Q,s.d.nm.1=x/\acB s.d.ac=true/\m<=gP s.d):m<=bnd hs D:=by
 obtain⟨m1,_⟩:=kT (ns:=hs.map λx=>stV (maxD ((D.filter λd=>acB d.ac).filter λd=>decide (d.nm.1=x)))) (by simpa using h0)
 obtain⟨x,hx,ex⟩:=aq.mp m1;obtain⟨s,hs',e1,e2,e3⟩:=h x hx
 show m<=jI _
 rw[<-ex];cases e:maxD ((D.filter λd=>acB d.ac).filter λd=>decide (d.nm.1=x)) with
 |none=>
  have:=AD.mp e;have hm:s.d∈(D.filter λd=>acB d.ac).filter λd=>decide (d.nm.1=x):=ay.mpr ⟨ay.mpr ⟨(mem _).mpr (aq.mpr ⟨s,hs',rfl⟩),e2⟩,decide_eq_true e1⟩;rw[this]at hm;simp at hm
 |some d=>
  obtain⟨⟨t,ht,et,f1,f2⟩,top⟩:=C1 mem e
  show m<=gP d
  rw[<-et];have l:=top s hs' e1 e2;rw[<-et]at l;rcases Int.lt_or_eq_of_le l with l|l
  ·have:=(i.lt nd (q.sub s hs') (q.sub t ht) (e1.trans f1.symm) l).2;omega
  ·have:=FN q.inc hs' ht (Prod.ext (e1.trans f1.symm) l);rw[<-this];exact e3
theorem Ip{hs:List Str}(nd:hs.Nodup){R Q:List Row}{T:List Int}(i:HS hs R T)(q:DQ R Q){D:List De}(mem:∀d,d∈D↔d∈Q.map (·.d)){y:Row}(hy:y∈R)(l:gP y.d<=bnd hs D):∃s∈Q,s.d.nm.1=y.d.nm.1/\acB s.d.ac=true/\y.d.nm.2<=s.d.nm.2:=by
 have p:=(i.pos nd hy).1;obtain⟨s,hs',e1,e2,e3⟩:=DR mem (i.rw y hy).hand (by omega);refine⟨s,hs',e1,e2,?_⟩
 by_cases z:y.d.nm.2<=s.d.nm.2
 ·exact z
 ·have:=(i.lt nd (q.sub s hs') hy e1 (by omega)).2;omega
theorem Nm{hs:List Str}(nd:hs.Nodup){R Q:List Row}{T:List Int}(i:HS hs R T)(q:DQ R Q){D:List De}(mem:∀d,d∈D↔d∈Q.map (·.d)){y:Row}(hy:y∈R)(l:gP y.d<=bnd hs D):y∈Q:=by
 obtain⟨s,hs',e1,e2,e3⟩:=Ip nd i q mem hy l;exact q.dn s hs' y hy e1.symm e3
theorem JR{d:De}(h:acB d.ac=true):(dD d).kd=.settle:=by
 show kdOf d.ac=.settle
 cases e:d.ac <;> rw[e]at h <;> first|rfl|cases h
theorem Iq{hs:List Str}(nd:hs.Nodup){R Q Q':List Row}{T:List Int}(i:HS hs R T)(q:DQ R Q)(q':DQ R Q')(sub:∀z∈Q,z∈Q'){D:List De}(mem:∀d,d∈D↔d∈Q.map (·.d)){F G:List Dd}(nF:(F.map (·.nm)).Nodup)(nG:(G.map (·.nm)).Nodup)(fF:qJ F)(fG:qJ G)(mF:∀d,d∈F ↔ ∃z∈Q,dD z.d=d)(mG:∀d,d∈G ↔ ∃z∈Q',dD z.d=d){y:Row}(hy:y∈R)(l:gP y.d<=bnd hs D):TkL F y.d.nm↔TkL G y.d.nm:=by
 obtain⟨s,hs',e1,e2,e3⟩:=Ip nd i q mem hy l;have k1:TkL F y.d.nm↔tkH (ofH y.d.nm.1 (F.map tri)) [] y.d.nm.2:=N7 (L:=F.map tri) (h:=y.d.nm.1) (n:=y.d.nm.2);have k2:TkL G y.d.nm↔tkH (ofH y.d.nm.1 (G.map tri)) [] y.d.nm.2:=N7 (L:=G.map tri) (h:=y.d.nm.1) (n:=y.d.nm.2);rw[k1,k2];have hd:hdD (dD s.d)=(s.d.nm.2,.settle):=by
  show(s.d.nm.2,(dD s.d).kd)=_
  rw[JR e2]
 refine QC (xT nF fF) (xT nG fG) (c:=s.d.nm.2) (qM.mpr ⟨dD s.d,(mF _).mpr ⟨s,hs',rfl⟩,e1,hd⟩) (qM.mpr ⟨dD s.d,(mG _).mpr ⟨s,sub s hs',rfl⟩,e1,hd⟩) (λx hx=>?_) e3;rw[qM,qM];constructor
 ·rintro⟨d,hd,f1,f2⟩;obtain⟨z,hz,rfl⟩:=(mF d).mp hd;exact⟨_,(mG _).mpr ⟨z,sub z hz,rfl⟩,f1,f2⟩
 ·rintro⟨d,hd,f1,f2⟩;obtain⟨z,hz,rfl⟩:=(mG d).mp hd;have hn:z.d.nm.2<s.d.nm.2:=by
   have:z.d.nm.2=x.1:=by rw[<-f2];rfl
   omega
  have f1:z.d.nm.1=y.d.nm.1:=f1;exact⟨_,(mF _).mpr ⟨z,q.dn s hs' z (q'.sub z hz) (f1.trans e1.symm) (by omega),rfl⟩,f1,f2⟩
theorem mM(M:Int)(d:De):nI M (dD d)=decide (gP d<=M):=rfl
theorem FS{hs:List Str}(nd:hs.Nodup){R Q Q':List Row}{T:List Int}(i:HS hs R T)(q:DQ R Q)(q':DQ R Q')(sub:∀z∈Q,z∈Q'){D:List De}(mem:∀d,d∈D↔d∈Q.map (·.d)){o1 o2:List Dd}(f1:InF Q o1)(f2:InF Q' o2):o1.filter (nI (bnd hs D))=o2.filter (nI (bnd hs D)):=by
 obtain⟨F,nF,fF,mF,out1⟩:=f1.ex;obtain⟨G,nG,fG,mG,out2⟩:=f2.ex;refine xR ((d9.map _).nodup f1.nd) ((d9.map _).nodup f2.nd) (f1.br.sublist d9) (f2.br.sublist d9) λd=>?_;rw[ay,ay];constructor
 ·rintro⟨h1,h2⟩;obtain⟨⟨z,hz,rfl⟩,nt⟩:=(out1 d).mp h1;rw[mM,decide_eq_true_iff]at h2;refine⟨(out2 _).mpr ⟨⟨z,sub z hz,rfl⟩,λt=>nt ?_⟩,by rw[mM,decide_eq_true_iff];exact h2⟩;exact(Iq nd i q q' sub mem nF nG fF fG mF mG (q.sub z hz) h2).mpr t
 ·rintro⟨h1,h2⟩;obtain⟨⟨z,hz,rfl⟩,nt⟩:=(out2 d).mp h1;rw[mM,decide_eq_true_iff]at h2;have hzR:=q'.sub z hz;refine⟨(out1 _).mpr ⟨⟨z,Nm nd i q mem hzR h2,rfl⟩,λt=>nt ?_⟩,by rw[mM,decide_eq_true_iff];exact h2⟩;exact(Iq nd i q q' sub mem nF nG fF fG mF mG hzR h2).mp t
theorem Np{hs:List Str}(nd:hs.Nodup)(h0:hs≠[]){R Q Q':List Row}{T:List Int}(i:HS hs R T)(q':DQ R Q')(sub:∀z∈Q,z∈Q'){D D':List De}(mem:∀d,d∈D↔d∈Q.map (·.d))(mem':∀d,d∈D'↔d∈Q'.map (·.d))(p:0<bnd hs D):bnd hs D<=bnd hs D':=
 Ud nd h0 i q' mem' λx hx=>by
  obtain⟨s,hs',r⟩:=DR mem hx p;exact⟨s,sub s hs',r⟩
abbrev Cnt:=List (List Int×Nat)
def bR(C:Cnt)(w:Nat):List Int:=(C.getD w ([],0)).1
def FT(C:Cnt)(w:Nat):Nat:=(C.getD w ([],0)).2
theorem pick{α:Type}{xs:List α}{e:α->PV}{n:Nat}(hn:xs.length=n)(h0:0<n)(i:Int):∃x∈xs,atI (xs.map e) (i%(n:Int))=some (e x):=by
 obtain⟨one,e1,hmem⟩:=PQ (xs:=xs.map e) (i:=i) (by intro z;rw[List.map_eq_nil_iff]at z;rw[z]at hn;simp at hn;omega);obtain⟨p,hp,rfl⟩:=aq.mp hmem;rw[af,hn]at e1;exact⟨p,hp,e1⟩
theorem QD(c:Int){n:Nat}(h:0<n):∃w:Nat,c%(n:Int)=w/\w<n:=by
 have h1:=ic c (b:=(n:Int)) (by omega);have h2:=ie c (b:=(n:Int)) (by omega);exact⟨(c%(n:Int)).toNat,by omega,by omega⟩
theorem C2(x:Str):∀R:List Row,R.filterMap (λz=>if z.d.nm.1=x then some (rwV z) else none)=(R.filter λz=>decide (z.d.nm.1=x)).map rwV
 |[]=>rfl
 |y::rs=>by
  rw[dj,fi]
  by_cases e:y.d.nm.1=x
  ·simp[e,C2 x rs]
  ·simp[e,C2 x rs]
theorem Ue(z:Row)(h:PH):vIx (rwV z) (.int 0) h=.ok (deV z.d) h:=by unfold rwV;simp
theorem Y'(z:Row)(h:PH):vIx (rwV z) (.int 1) h=.ok (.ref z.r) h:=by unfold rwV;simp
theorem qN{h:PH}{l:Nat}{c:List Int}(g:h[l]?=some (.lst (c.map PV.int))){k:Nat}(hk:k<c.length):vIx (.ref l) (.int (k:Int)) h=.ok (.int (c.getD k 0)) h:=by
 rw[gW g,show atI (c.map PV.int) (k:Int)=some (.int (c.getD k 0)) from jY (by rw[au];simp[hk])]
 rfl
theorem Ir{h:PH}{l:Nat}{hs:List Str}(g:h[l]?=some (.lst (hs.map PV.str))){k:Nat}(hk:k<hs.length):vIx (.ref l) (.int (k:Int)) h=.ok (.str (hs.getD k "")) h:=by
 rw[gW g,show atI (hs.map PV.str) (k:Int)=some (.str (hs.getD k "")) from jY (by rw[au];simp[hk])]
 rfl
theorem uZ{h:PH}{l:Nat}{C:Cnt}(g:h[l]?=some (.lst (C.map λp=>PV.ref p.2))){k:Nat}(hk:k<C.length):vIx (.ref l) (.int (k:Int)) h=.ok (.ref (FT C k)) h:=by
 rw[gW g,show atI (C.map λp=>PV.ref p.2) (k:Int)=some (.ref (FT C k)) from jY (by rw[au];unfold FT;simp[hk])]
 rfl
theorem Ug{hs:List Str}(nd:hs.Nodup)(h6:hs.length<=6){R:List Row}(lR:R.length<=1000){C:List Int}(lC:C.length=hs.length){lr lh lc w:Nat}(hw:w<hs.length)(c way:Int){h:PH}(gh:h[lh]?=some (.lst (hs.map PV.str)))(gc:h[lc]?=some (.lst (C.map PV.int)))(gr:h[lr]?=some (.lst (R.map rwV)))(ne:lc≠lr)(x1 x7 x8 x9 x10 x11:Option PV)(E:FE)
  (fin:∀S a h2 y7 y8,cU hs C S->(∀n o,n≠lr->n≠lc->h[n]?=some o->h2[n]?=some o)->h2[lc]?=some (.lst ((C.set w (C.getD w 0+1)).map PV.int))->h2[lr]?=some (.lst ((R++[(⟨⟨(hs.getD w "",C.getD w 0+1),S,a⟩,C.set w (C.getD w 0+1),lc⟩:Row)]).map rwV))->E.nx [some (.ref lr),x1,some (.ref lh),some (.int c),some (.int (w:Int)),some (.ref lc),some (.int way),y7,y8,x9,x10,x11] h2):
  (aW (bK 7 (jC (aB (aD vAt (mV 2) (mV 4)) (aB (aD bH (aD vAt (mV 5) (mV 4)) (mC (.int 1))) aI))))
  (aW (bK 8 (jC (aB (mV 7) (aB (aY 2 xE (aB (mV 2) (aB (mV 5) aI))) (aB (aY 3 DF (aB (mV 6) (aB (aD vAt (mV 5) (mV 4)) (aB (aD nB (mV 3) (mC (.int 32))) aI)))) aI)))))
  (aW (nN (aD bH (aD vAt (mV 5) (mV 4)) (mC (.int 1))) (mV 5) (mV 4))
  (D9 (mMt isL (onL dO) (mV 0) (aB (jC (aB (mV 8) (aB (mV 5) aI))) aI))))) [some (.ref lr),x1,some (.ref lh),some (.int c),some (.int (w:Int)),some (.ref lc),some (.int way),x7,x8,x9,x10,x11] h).W E:=by
 have vc0:=qN gc (k:=w) (by omega);have vh:=Ir gh hw;obtain⟨hd,ehd⟩:∃hd,hs.getD w "" = hd:=⟨_,rfl⟩;rw[ehd]at vh fin;obtain⟨tp,etp⟩:∃tp,C.getD w 0=tp:=⟨_,rfl⟩;rw[etp]at vc0 fin;rw[aL];simp[vh,vc0];refine now ?_;rw[aL];simp;refine Qk nd h6 lC gh gc _ λS h1 x1' so=>?_;have gc1:=x1' _ _ gc;have vc1:=qN gc1 (k:=w) (by omega);rw[etp]at vc1;simp(disch:=omega) [vc1];refine Ua way tp (c/32) h1 _ λa=>?_;have pu:=Ju (v:=.int (tp+1)) (i:=(w:Int)) gc1 (by omega) (by rw[af];omega);rw[ng,<-List.map_set]at pu;have g2:(h1.set lc (.lst ((C.set w (tp+1)).map PV.int)))[lr]?=some (.lst (R.map rwV)):=by rw[bg ne];exact x1' _ _ gr
 have g3:(h1.set lc (.lst ((C.set w (tp+1)).map PV.int)))[lc]?=some (.lst ((C.set w (tp+1)).map PV.int)):=eC gc1;have kp:∀n o,n≠lc->h[n]?=some o->(h1.set lc (.lst ((C.set w (tp+1)).map PV.int)))[n]?=some o:=λn o q e=>by rw[bg (k0 q)];exact x1' _ _ e
 generalize h1.set lc (.lst ((C.set w (tp+1)).map PV.int))=hB at pu g2 g3 kp;have il:=jE g2;have ap:=gJ (p:=rwV ⟨⟨(hd,tp+1),S,a⟩,C.set w (tp+1),lc⟩) g2 (by rw[af];omega);have ap':onL dO (.ref lr) [.tup [.tup [.tup [.str hd,.int (tp+1)],sv S,acV a],.ref lc]] hB=_:=ap;refine now ?_;rw[aL];simp[vc1,pu];refine now ?_;simp[il,ap'];refine fin S a _ _ _ so (λn o q1 q2 e=>by rw[bg (k0 q1)];exact kp n o q2 e) (by rw[bg (k0 ne)];exact g3) (by rw[eC g2,c7];rfl)
theorem Uh{hs:List Str}(h6:hs.length<=6){C f:List Int}(lC:C.length=hs.length)(lf:f.length=hs.length){lh lc rf:Nat}{h:PH}(gh:h[lh]?=some (.lst (hs.map PV.str)))(gc:h[lc]?=some (.lst (C.map PV.int)))(gf:h[rf]?=some (.lst (f.map PV.int)))(x0 x1 x3 x4 x6 x7 x8 x9 x11:Option PV)(E:FE)
  (fin:∀n h2,Ext h h2->h.length<=n->h2[n]?=some (.lst ((mxs hs.length C f).map PV.int))->E.nx [x0,x1,some (.ref lh),x3,x4,some (.ref n),x6,x7,x8,x9,some (.ref rf),x11] h2):
  Lt (bK 5 (bB [none,some 5,some 10] (kI (aB (mCB gF (aB (mV 2) aI)) aI)) (gN 0) fK (mCB pW (aB (aD vAt (mV 1) (mV 0)) (aB (aD vAt (mV 2) (mV 0)) aI))))) E [x0,x1,some (.ref lh),x3,x4,some (.ref lc),x6,x7,x8,x9,some (.ref rf),x11] h:=by
 refine now ?_;have hlv:=gI gh;rw[af]at hlv;have hc:=Dh (js:=[none,some 5,some 10]) (tg:=gN 0) (tst:=fK) (elt:=mCB pW (aB (aD vAt (mV 1) (mV 0)) (aB (aD vAt (mV 2) (mV 0)) aI))) (δ:=[x0,x1,some (.ref lh),x3,x4,some (.ref lc),x6,x7,x8,x9,some (.ref rf),x11]) (h:=h) (h1:=h) (ms:=aB (mCB gF (aB (mV 2) aI)) aI) (j:=(hs.length:Int))
  (λk=>some (.int (if f.getD k 0>C.getD k 0 then f.getD k 0 else C.getD k 0))) (by simp[hlv]) (by omega) (λk hk=>⟨[some (.int (k:Int)),some (.ref lc),some (.ref rf)],by simp[bX],λh2 x2=>by
   have hk':k<hs.length:=by omega
   have v1:=qN (x2 _ _ gc) (k:=k) (by omega);have v2:=qN (x2 _ _ gf) (k:=k) (by omega);generalize C.getD k 0=u1 at v1;generalize f.getD k 0=u2 at v2;refine⟨rfl,?_⟩;simp[v1,v2]⟩)
 have em:(av ((hs.length:Int)).toNat).filterMap (λk=>some (PV.int (if f.getD k 0>C.getD k 0 then f.getD k 0 else C.getD k 0)))=(mxs hs.length C f).map PV.int:=by
  rw[ng];unfold mxs;rw[cu,filterMap_some];rfl
 rw[em]at hc;simp[hc];exact fin _ _ (Ext.app _ _) (ak _) aK
theorem Nq{C:Cnt}{mr lc w:Nat}(hw:w<C.length)(l6:C.length<=6){h:PH}(gm:h[mr]?=some (.lst (C.map λp=>PV.ref p.2)))(x0 x2 x3 x6 x7 x8 x9 x10 x11:Option PV)(Q:PV->PH->Prop)
  (k:∀n h2,Ext h h2->h.length<=n->h2[n]?=some (.lst ((C.map λp=>PV.ref p.2).set w (.ref lc)))->Q (.ref n) h2):
  (aD bH (aD bH (mSl (mV 1) D7 (mP (mV 4))) (pI (aB (mV 5) aI))) (mSl (mV 1) (mP (aD bH (mV 4) (mC (.int 1)))) D7) [x0,some (.ref mr),x2,x3,some (.int (w:Int)),some (.ref lc),x6,x7,x8,x9,x10,x11] h).W Q:=by
 obtain⟨X,eX⟩:∃X,(C.map λp=>PV.ref p.2)=X:=⟨_,rfl⟩;have lX:X.length=C.length:=by rw[<-eX,af]
 rw[eX]at gm k;have s1:=HI (lo:=none) (hi:=some (w:Int)) gm;rw[N3 (xs:=X) (n:=w) (by omega)]at s1;have a1:Ext h (h++[MO.lst (X.take w)]):=Ext.app _ _;have b1:(h++[MO.lst (X.take w)])[h.length]?=some (.lst (X.take w)):=aK;generalize h++[MO.lst (X.take w)]=hA at s1 a1 b1;have a2:Ext hA (hA++[MO.lst [PV.ref lc]]):=Ext.app _ _;have b2:(hA++[MO.lst [PV.ref lc]])[hA.length]?=some (.lst [PV.ref lc]):=aK;have p1:=Ao (a2 _ _ b1) b2 (by rw[eu];simp;omega);have a3:Ext (hA++[MO.lst [PV.ref lc]]) (hA++[MO.lst [PV.ref lc]]++[MO.lst (X.take w++[PV.ref lc])]):=Ext.app _ _;have b3:(hA++[MO.lst [PV.ref lc]]++[MO.lst (X.take w++[PV.ref lc])])[(hA++[MO.lst [PV.ref lc]]).length]?=some (.lst (X.take w++[PV.ref lc])):=aK;generalize hA++[MO.lst [PV.ref lc]]++[MO.lst (X.take w++[PV.ref lc])]=hC at p1 a3 b3;have s2:=HI (lo:=some (((w+1:Nat):Int))) (hi:=none) (a3 _ _ (a2 _ _ (a1 _ _ gm)));rw[N4 (xs:=X) (n:=w+1) (by omega)]at s2;have a4:Ext hC (hC++[MO.lst (X.drop (w+1))]):=Ext.app _ _;have b4:(hC++[MO.lst (X.drop (w+1))])[hC.length]?=some (.lst (X.drop (w+1))):=aK;generalize hC++[MO.lst (X.drop (w+1))]=hD at s2 a4 b4;have p2:=Ao (a4 _ _ b3) b4 (by rw[fg,eu,List.length_drop];simp;omega);have s2:vSl (.ref mr) (some ((w:Int)+1)) none hC=.ok (.ref hC.length) hD:=s2;have a14:Ext h hD:=a1.trans (a2.trans (a3.trans a4));have l14:=a14.len;have eS:X.take w++[PV.ref lc]++X.drop (w+1)=X.set w (.ref lc):=by
  rw[List.set_eq_take_append_cons_drop,if_pos (by omega),List.append_assoc];rfl
 rw[eS]at p2;generalize hC.length=lD at s2 p2 b4;generalize (hA++[MO.lst [PV.ref lc]]).length=lC at p1 b3 p2;generalize h.length=lA at s1 p1 b1 k l14;simp[s1,p1,s2,p2];exact k _ _ (a14.trans (Ext.app _ _)) l14 aK
theorem Ya{h:PH}{a b:Nat}{R:List Row}(g1:h[a]?=some (.lst (R.map rwV)))(g2:h[b]?=some (.lst [])):Qa (.ref a) (.ref b) h=.ok (.bl (!decide (R=[]))) h:=by
 unfold Qa eqF;cases R with
 |nil=>rw[Dc g1 g2 rfl rfl];rfl
 |cons z R=>
  have q1:cT (.ref a) h=some ((z::R).map rwV):=by simp[cT,aN,g1]
  have q2:cT (.ref b) h=some []:=by simp[cT,aN,g2]
  have q3:PV.ds ((z::R).map rwV)=none:=by simp[PV.ds,rwV,PV.d,deV,pv]
  have n2:jA (.ref a) (.ref b) h=none:=by
   unfold jA;simp only[PV.d,q1,q2,q3]
  rw[n2];simp only[q1,q2];rfl
structure MOk(hs:List Str)(R:List Row)(T:List Int)(m:Cnt):Prop where
 len:m.length=hs.length
 vo:∀p∈m,VOk hs R T p.1
 own:∀w v,w<hs.length->v<hs.length->(bR m w).getD v 0<=(bR m v).getD v 0
def MAt(h:PH)(r:Nat)(m:Cnt):Prop:=h[r]?=some (.lst (m.map λp=>PV.ref p.2))/\∀p∈m,h[p.2]?=some (.lst (p.1.map PV.int))
theorem sT{C:Cnt}{w:Nat}(hw:w<C.length):(bR C w,FT C w)∈C:=by
 have e:C[w]?=some (bR C w,FT C w):=by
  unfold bR FT;simp[hw]
 exact cq e
theorem fC{C:Cnt}{w v:Nat}{c:List Int}{r:Nat}(hw:w<C.length):bR (C.set w (c,r)) v=if w=v then c else bR C v:=by
 unfold bR;rw[cY _ _ _ _ _ hw];split <;> rfl
theorem VOk.at{hs:List Str}{R:List Row}{T:List Int}{m:Cnt}(mo:MOk hs R T m){w:Nat}(hw:w<hs.length):VOk hs R T (bR m w):=mo.vo _ (sT (by rw[mo.len];exact hw))
def Gf(hs:List Str)(R:List Row)(T:List Int):Prop:=∀w,w<hs.length->∀n:Int,1<=n->n<=T.getD w 0->∃z∈R,z.d.nm=(hs.getD w "",n)
theorem Gf.more{hs:List Str}{R:List Row}{T:List Int}(g:Gf hs R T){w:Nat}(hw:w<T.length){v:Int}(hv:v=T.getD w 0+1){z:Row}(en:z.d.nm=(hs.getD w "",v)):Gf hs (R++[z]) (T.set w v):=λu hu n h1 h2=>by
 rw[cY _ _ _ _ _ hw]at h2
 by_cases q:w=u
 ·subst q;rw[if_pos rfl]at h2
  by_cases e:n=v
  ·exact⟨z,by simp,by rw[en,e]⟩
  ·obtain⟨y,hy,ey⟩:=g w hu n h1 (by omega);exact⟨y,by simp[hy],ey⟩
 ·rw[if_neg q]at h2;obtain⟨y,hy,ey⟩:=g u hu n h1 h2;exact⟨y,by simp[hy],ey⟩
structure Nx(hs:List Str)(R:List Row)(T:List Int)(m:Cnt)(lr:Nat)(N:Nat->Prop)(h:PH)(R':List Row)(T':List Int)(m':Cnt)(r':Nat)(h':PH):Prop where
 kp:∀n o,n≠lr->h[n]?=some o->h'[n]?=some o
 hi:HS hs R' T'
 up:∀c,VOk hs R T c->VOk hs R' T' c
 mn:∀v,v<hs.length->Lv hs.length (bR m v) (bR m' v)
 gf:Gf hs R T->Gf hs R' T'
 lR:R'.length<=R.length+1
 mo:MOk hs R' T' m'
 tp:∀v,v<hs.length->(bR m' v).getD v 0=T'.getD v 0
 ra:RAt h' lr R'
 ma:MAt h' r' m'
 rN:∀z∈R',N z.r
 mN:N r'/\∀p∈m',N p.2
theorem QE{hs:List Str}(nd:hs.Nodup)(h0:hs≠[])(h6:hs.length<=6){R:List Row}{T:List Int}(i:HS hs R T)(lR:R.length<=1000){m:Cnt}{mr:Nat}(mo:MOk hs R T m)(tp:∀v,v<hs.length->(bR m v).getD v 0=T.getD v 0)(c:Int){lr lh:Nat}{h:PH}{N:Nat->Prop}(hN:∀n,h.length<=n->N n)(nr:¬ N lr)(ra:RAt h lr R)(ma:MAt h mr m)(rN:∀z∈R,N z.r)(mN:N mr/\∀p∈m,N p.2)(gh:h[lh]?=some (.lst (hs.map PV.str)))(Q:PV->PH->Prop)
  (k:∀R' T' m' r' h',Nx hs R T m lr N h R' T' m' r' h'->Q (.ref r') h'):(BP [.ref lr,.ref mr,.ref lh,.int c] h).W Q:=by
 refine eY ?_;unfold FF;rw[show List.map some [PV.ref lr,.ref mr,.ref lh,.int c]++cj (12 - [PV.ref lr,.ref mr,.ref lh,.int c].length) none=[some (.ref lr),some (.ref mr),some (.ref lh),some (.int c),none,none,none,none,none,none,none,none] from rfl]
 have hpos:0<hs.length:=lg.mpr h0;have hlv:∀h2,Ext h h2->gF [.ref lh] h2=.ok (.int (hs.length:Int)) h2:=λh2 x2=>by
  have:=gI (x2 _ _ gh);rw[af]at this;exact this
 obtain⟨w,ew,hw⟩:=QD c hpos;have hwm:w<m.length:=by rw[mo.len];exact hw
 have mw:=sT hwm;have vw:=mo.vo _ mw;have gw:=ma.2 _ mw;have hl0:=hlv h (Ext.refl _);rw[aL];simp(disch:=omega) [hl0,ew];refine now ?_;rw[aL];have va:=uZ ma.1 hwm;have vl:=N6 gw;simp[va,vl];have x1:Ext h (h++[MO.lst ((bR m w).map PV.int)]):=Ext.app _ _;have g1:(h++[MO.lst ((bR m w).map PV.int)])[h.length]?=some (.lst ((bR m w).map PV.int)):=aK;have nl:=hN h.length (ak _);have l1:h.length<=(h++[MO.lst ((bR m w).map PV.int)]).length:=x1.len;have ne:∀n,N n->n≠lr:=λn hn e=>nr (e▸hn);have lt:∀n o,h[n]?=some o->n<h.length:=λn o e=>(ab.mp e).1;have nlc:∀n o,h[n]?=some o->n≠h.length:=λn o e=>a9 (lt n o e);generalize h++[MO.lst ((bR m w).map PV.int)]=h1 at x1 g1 l1;generalize hlc:h.length=lc at g1 nl nlc;refine now ?_;rw[aL];have hl1:=hlv h1 x1;simp(disch:=omega) [hl1];generalize c/(hs.length:Int)%8=way;refine now ?_;rw[aL,pM]
 by_cases e5:way<5
 ·simp[e5];refine Ug nd h6 lR vw.len hw c way (x1 _ _ gh) g1 (x1 _ _ ra.1) (ne _ nl) _ _ _ _ _ _ _ λS a h2 y7 y8 so kp gl gr=>?_;have ow:(bR m w).getD w 0=T.getD w 0:=tp w hw;obtain⟨hi,vn⟩:=i.more nd hw vw ow so a lc;have up:∀c',VOk hs R T c'->VOk hs (R++[⟨⟨(hs.getD w "",(bR m w).getD w 0+1),S,a⟩,(bR m w).set w ((bR m w).getD w 0+1),lc⟩]) (T.set w ((bR m w).getD w 0+1)) c':=λc' v'=>VOk.up nd i.len hw ow v' rfl;refine now ?_;rw[kL];have kp2:∀n o,n≠lr->h[n]?=some o->h2[n]?=some o:=λn o q e=>kp n o q (nlc n o e) (x1 _ _ e);refine Nq hwm (by rw[mo.len];exact h6) (kp2 _ _ (ne _ mN.1) ma.1) _ _ _ _ _ _ _ _ _ _ λn h3 x3 ln gn=>?_;have ln:lc<=n:=df (i4 (ab.mp gl).1) ln;refine k _ _ (m.set w ((bR m w).set w ((bR m w).getD w 0+1),lc)) n h3 ⟨λn o q e=>x3 _ _ (kp2 n o q e),hi,up,λv hv x hx=>by
   rw[fC hwm];split
   ·rename_i q;subst q;rw[cY _ _ _ _ _ (by rw[vw.len];exact hw)];split
    ·rename_i q;subst q;omega
    ·exact ff _
   ·exact ff _,λg=>g.more (by rw[i.len];exact hw) (by rw[ow]) rfl,by rw[fg];simp,⟨by rw[i5];exact mo.len,λp hp=>?_,λu v hu hv=>?_⟩,λv hv=>?_,⟨x3 _ _ gr,λz hz=>?_⟩,⟨by rw[gn,List.map_set],λp hp=>?_⟩,λz hz=>?_,hN n (by omega),λp hp=>?_⟩
  ·rcases gg hp with q|q
   ·exact up _ (mo.vo p q)
   ·rw[q];exact vn
  ·rw[fC hwm,fC hwm];have gs:∀x,((bR m w).set w ((bR m w).getD w 0+1)).getD x 0=if w=x then(bR m w).getD w 0+1 else(bR m w).getD x 0:=λx=>cY _ _ _ _ _ (by rw[vw.len];exact hw);have o1:=mo.own u v hu hv
   by_cases q1:w=u
   ·subst q1
    by_cases q2:w=v
    ·subst q2;exact ff _
    ·rw[if_pos rfl,if_neg q2,gs v,if_neg q2];exact o1
   ·by_cases q2:w=v
    ·subst q2;rw[if_neg q1,if_pos rfl,gs w,if_pos rfl];omega
    ·rw[if_neg q1,if_neg q2];exact o1
  ·rw[fC hwm,cY _ _ _ _ _ (by rw[i.len];exact hw)]
   by_cases q2:w=v
   ·subst q2;rw[if_pos rfl,if_pos rfl,cY _ _ _ _ _ (by rw[vw.len];exact hw),if_pos rfl]
   ·rw[if_neg q2,if_neg q2];exact tp v hv
  ·rcases bh.mp hz with q|q
   ·exact x3 _ _ (kp2 _ _ (ne _ (rN z q)) (ra.2 z q))
   ·simp at q;subst q;exact x3 _ _ gl
  ·rcases gg hp with q|q
   ·exact x3 _ _ (kp2 _ _ (ne _ (mN.2 p q)) (ma.2 p q))
   ·rw[q];exact x3 _ _ gl
  ·rcases bh.mp hz with q|q
   ·exact rN z q
   ·simp at q;subst q;exact nl
  ·rcases gg hp with q|q
   ·exact mN.2 p q
   ·rw[q];exact nl
 ·simp[e5];rw[aL];obtain⟨mm,em,hm⟩:∃m:Int,(if(hs.length:Int)-1>1 then(hs.length:Int)-1 else 1)=m/\0<m:=⟨_,rfl,by split <;> omega⟩;obtain⟨v,ev,hv⟩:=QD ((w:Int)+1+c/32%mm) hpos;have em':(if 1<(hs.length:Int)-1 then(hs.length:Int)-1 else 1)=mm:=em;simp(disch:=omega) [hl1,em',ev];refine now ?_;rw[aL];have hvm:v<m.length:=by rw[mo.len];exact hv
  have va1:=uZ (x1 _ _ ma.1) hvm;simp[va1];refine now ?_;rw[aL];have vh:∀h2,Ext h1 h2->vIx (.ref lh) (.int (v:Int)) h2=.ok (.str (hs.getD v "")) h2:=λh2 x2=>Ir ((x1.trans x2) _ _ gh) hv;generalize hs.getD v "" = hd at vh;have hc:=cX (m:=mV 0) (n:=lr) (js:=[none,some 2,some 9]) (tg:=gN 0) (tst:=bQ (aD vEq (aD vAt (aD vAt (aD vAt (mV 0) (mC (.int 0))) (mC (.int 0))) (mC (.int 0))) (aD vAt (mV 1) (mV 2)))) (elt:=mV 0) (δ:=[some (.ref lr),some (.ref mr),some (.ref lh),some (.int c),some (.int (w:Int)),some (.ref lc),some (.int way),none,none,some (.int (v:Int)),some (.ref (FT m v)),none]) (h:=h1) (h1:=h1) (ys:=R) (emb:=rwV)
   (λz=>if z.d.nm.1=hd then some (rwV z) else none) (by simp) (x1 _ _ ra.1) (by omega) (λz _=>⟨[some (rwV z),some (.ref lh),some (.int (v:Int))],by simp[bX],λh2 x2=>by
    by_cases e:z.d.nm.1=hd
    ·simp[Ue,de0,pv0,vh h2 x2,e]
    ·simp[Ue,de0,pv0,vh h2 x2,e]⟩)
  rw[C2 hd R]at hc;have memF:∀z∈R.filter λz=>decide (z.d.nm.1=hd),z∈R:=λz hz=>(ay.mp hz).1;generalize (R.filter λz=>decide (z.d.nm.1=hd))=F at hc memF;have x2:Ext h1 (h1++[MO.lst (F.map rwV)]):=Ext.app _ _;have g2:(h1++[MO.lst (F.map rwV)])[h1.length]?=some (.lst (F.map rwV)):=aK;simp only[pL,hc,kK,my,List.set_cons_zero];generalize h1++[MO.lst (F.map rwV)]=hA at hc x2 g2;generalize h1.length=lf at hc g2;clear hc;refine now ?_;rw[aL,pM];have x12:=x1.trans x2;have nx:∀(h2:PH),Ext hA h2->∀(f:List Int)(rf:Nat)(x9:Option PV),VOk hs R T f->h2[rf]?=some (.lst (f.map PV.int))->Lt (bK 5 (bB [none,some 5,some 10] (kI (aB (mCB gF (aB (mV 2) aI)) aI)) (gN 0) fK (mCB pW (aB (aD vAt (mV 1) (mV 0)) (aB (aD vAt (mV 2) (mV 0)) aI))))) { nx:=Lt (cA (aD bH (aD bH (mSl (mV 1) D7 (mP (mV 4))) (pI (aB (mV 5) aI))) (mSl (mV 1) (mP (aD bH (mV 4) (mC (.int 1)))) D7))) { nx:=λ_ h=>Q .non h,rt:=Q },rt:=Q } [some (.ref lr),some (.ref mr),some (.ref lh),some (.int c),some (.int (w:Int)),some (.ref lc),some (.int way),none,none,x9,some (.ref rf),some (.ref lf)] h2:=λh2 x2' f rf x9 of gf=>by
   have x02:=x12.trans x2';refine Uh h6 vw.len of.len (x02 _ _ gh) ((x2.trans x2') _ _ g1) gf _ _ _ _ _ _ _ _ _ _ λn h3 x3 ln gn=>?_;refine now ?_;rw[kL];have x03:=x02.trans x3;refine Nq hwm (by rw[mo.len];exact h6) (x03 _ _ ma.1) _ _ _ _ _ _ _ _ _ _ λn' h4 x4 ln' gn'=>?_;have x04:=x03.trans x4;have vm:=VOk.max vw of;have big:∀n,h2.length<=n->N n:=λn hn=>hN n (by have:=x02.len;omega);refine k R T (m.set w (mxs hs.length (bR m w) f,n)) n' h4 ⟨λn o _ e=>x04 _ _ e,i,λ_ v=>v,λv hv x hx=>by
    rw[fC hwm];split
    ·rename_i q;subst q;rw[gO,if_pos hx];split
     ·omega
     ·exact ff _
    ·exact ff _,λg=>g,by omega,⟨by rw[i5];exact mo.len,λp hp=>?_,λu v hu hv=>?_⟩,λv hv=>?_,ra.ext x04,⟨by rw[gn',List.map_set],λp hp=>?_⟩,rN,big n' (by have:=x3.len;omega),λp hp=>?_⟩
   ·rcases gg hp with q|q
    ·exact mo.vo p q
    ·rw[q];exact vm
   ·rw[fC hwm,fC hwm];have t1:∀v,v<hs.length->(if w=v then mxs hs.length (bR m w) f else bR m v).getD v 0=T.getD v 0:=λv hv=>by
     split
     ·rename_i q;subst q;rw[gO,if_pos hv];have a1:=tp w hv;have a2:=of.le w hv;have a2:f.getD w 0<=T.getD w 0:=a2;rw[if_neg (by omega)];exact a1
     ·exact tp v hv
    rw[t1 v hv];split
    ·exact vm.le v hv
    ·exact(VOk.at mo hu).le v hv
   ·rw[fC hwm];split
    ·rename_i q;subst q;rw[gO,if_pos hv];have a1:=tp w hv;have a2:=of.le w hv;have a2:f.getD w 0<=T.getD w 0:=a2;rw[if_neg (by omega)];exact a1
    ·exact tp v hv
   ·rcases gg hp with q|q
    ·exact x04 _ _ (ma.2 p q)
    ·rw[q];exact x4 _ _ gn
   ·rcases gg hp with q|q
    ·exact mN.2 p q
    ·rw[q];exact big n ln
  have gv:=ma.2 _ (sT hvm);have vv:=VOk.at mo hv
  by_cases e7:way<7
  ·have vn:=Ya (Ext.app hA [MO.lst []] _ _ g2) (aK (h:=hA) (o:=MO.lst []));have xB:Ext hA (hA++[MO.lst []]):=Ext.app _ _;have gB:=xB _ _ g2
   by_cases eF:F=[]
   ·subst eF;simp[e7,vn];exact nx _ xB _ _ _ vv (xB _ _ (x12 _ _ gv))
   ·rw[decide_eq_false eF]at vn;have hF:0<F.length:=lg.mpr eF;obtain⟨z,hz,ez⟩:=pick (e:=rwV) (n:=F.length) rfl hF (c/64);have hl:=gI gB;rw[af]at hl;have vz:vIx (.ref lf) (.int (c/64%(F.length:Int))) (hA++[MO.lst []])=.ok (rwV z) (hA++[MO.lst []]):=by rw[gW gB,ez];rfl
    simp(disch:=omega) [e7,vn,hl,vz,Y'];have hzR:=memF z hz;exact nx _ xB _ _ _ (i.rw z hzR).vok (xB _ _ (x12 _ _ (ra.2 z hzR)))
  ·simp[e7];exact nx _ (Ext.refl _) _ _ _ vv (x12 _ _ gv)
theorem DS{hs:List Str}(h6:hs.length<=6){R:List Row}(inc:Inc R)(ok:∀z∈R,fB hs z)(lR:R.length<=63):∃os,lI R os:=by
 have mem:∀d,d∈R.map (·.d)↔d∈R.map (·.d):=λ_=>pb;obtain⟨t1,t2,t3⟩:=U8 h6 inc ok mem;have g:([MO.lst (((R.map (·.d)).map dD).map dP)]:PH)[0]?=some (.lst (((R.map (·.d)).map dD).map dP)):=rfl;obtain⟨p,h',e,os,o⟩:=gH (lH ((R.map (·.d)).map dD) t1 (by rw[af,af];exact lR) t2 0 _ g (λ_ _=>∃os,lI R os) λos' l' h' x' g' n' m' b'=>⟨os',n',λd=>(m' d).trans (t3 d),b'⟩);exact⟨os,o⟩
theorem DT{hs:List Str}(h6:hs.length<=6){R:List Row}(inc:Inc R)(ok:∀z∈R,fB hs z)(lR:R.length<=63):∃out,InF R out:=by
 have g:([MO.lst ((R.map (·.d)).map deV)]:PH)[0]?=some (.lst ((R.map (·.d)).map deV)):=rfl;obtain⟨p,h',e,os,o⟩:=gH (xS h6 inc ok (by rw[af];exact lR) (λ_=>pb) g (λ_ _=>∃out,InF R out) λout l' h' x' g' o=>⟨out,o⟩);exact⟨os,o⟩
def tkB(hs:List Str)(C:List Int)(d:De):Bool:=decide (d.nm.2<=C.getD (hs.idxOf d.nm.1) 0)
def Qr(hs:List Str)(R:List Row)(C:List Int):List Row:=R.filter λz=>tkB hs C z.d
theorem qO{hs:List Str}{x:Str}(hx:x∈hs):hs.idxOf x<hs.length/\hs.getD (hs.idxOf x) "" = x:=by
 have:=ki.mpr hx;exact⟨this,by simp[this]⟩
theorem dq{hs:List Str}{R:List Row}(inc:Inc R)(C:List Int):DQ R (Qr hs R C):=
 ⟨λz hz=>(ay.mp hz).1,inc.sublist d9,λz hz y hy e l=>by
  obtain⟨_,h2⟩:=ay.mp hz;have h2:z.d.nm.2<=C.getD (hs.idxOf z.d.nm.1) 0:=of_decide_eq_true h2;refine ay.mpr ⟨hy,decide_eq_true ?_⟩;rw[e];omega⟩
theorem DU{hs:List Str}{D:List De}(lD:D.length<=1000)(hm:∀d∈D,d.nm.1∈hs){C:List Int}(lC:C.length=hs.length){ld lh lc:Nat}{h:PH}(gd:h[ld]?=some (.lst (D.map deV)))(gh:h[lh]?=some (.lst (hs.map PV.str)))(gc:h[lc]?=some (.lst (C.map PV.int)))(Q:PV->PH->Prop)
  (k:∀n h',Ext h h'->h'[n]?=some (.lst ((D.filter (tkB hs C)).map deV))->Q (.ref n) h'):(pY [.ref ld,.ref lh,.ref lc] h).W Q:=by
 refine eY ?_;unfold BN;rw[show List.map some [PV.ref ld,.ref lh,.ref lc]++cj (3 - [PV.ref ld,.ref lh,.ref lc].length) none=[some (.ref ld),some (.ref lh),some (.ref lc)] from rfl]
 have hc:=cX (m:=mV 0) (n:=ld) (js:=[none,some 2,some 1]) (tg:=gN 0) (tst:=bQ (aD vLe (aD vAt (aD vAt (mV 0) (mC (.int 0))) (mC (.int 1))) (aD vAt (mV 1) (mMt isL sL (mV 2) (aB (aD vAt (aD vAt (mV 0) (mC (.int 0))) (mC (.int 0))) aI))))) (elt:=mV 0) (δ:=[some (.ref ld),some (.ref lh),some (.ref lc)]) (h:=h) (h1:=h) (ys:=D) (emb:=deV)
  (λd=>if tkB hs C d=true then some (deV d) else none) (by simp) gd (by omega) (λd hd=>⟨[some (deV d),some (.ref lc),some (.ref lh)],by simp[bX],λh2 x2=>by
   have ghh:=x2 _ _ gh;obtain⟨hi,_⟩:=qO (hm d hd);have vi:=JC ghh (hm d hd);have vc:=qN (x2 _ _ gc) (k:=hs.idxOf d.nm.1) (by omega);unfold tkB;generalize C.getD (hs.idxOf d.nm.1) 0=cv at vc;generalize hs.idxOf d.nm.1=j at vi vc
   by_cases e:d.nm.2<=cv
   ·rw[if_pos (decide_eq_true e)];simp[de0,pv0,pv1,jE ghh,vi,vc,e]
   ·rw[if_neg (by simpa using e)]
    simp[de0,pv0,pv1,jE ghh,vi,vc,e]⟩)
 rw[jP]at hc;rw[kL,hc,kK];exact k _ _ (Ext.app _ _) aK
theorem qP{hs:List Str}{Q:List Row}{M:Int}{os:List Dd}(o:lI Q os){p:Str×Int}:p∈dU hs Q M os↔(∃z∈Q,z.d.nm=p/\gP z.d<=M)/\∀x∈hs,∃y,uE Q x=some y/\p.2<=y.c.getD (hs.idxOf p.1) 0:=by
 unfold dU;rw[ay,aq];constructor
 ·rintro⟨⟨d,hd,rfl⟩,h2⟩;obtain⟨h3,h4⟩:=ay.mp hd;obtain⟨z,hz,rfl⟩:=(o.me d).mp h3;rw[mM,decide_eq_true_iff]at h4;refine⟨⟨z,hz,rfl,h4⟩,λx hx=>?_⟩;have:=bz.mp h2 x hx;unfold qK at this;cases e:uE Q x with
  |none=>rw[e]at this;cases this
  |some y=>rw[e]at this;exact⟨y,rfl,of_decide_eq_true this⟩
 ·rintro⟨⟨z,hz,rfl,l⟩,all⟩;refine⟨⟨dD z.d,ay.mpr ⟨(o.me _).mpr ⟨z,hz,rfl⟩,by rw[mM];exact decide_eq_true l⟩,rfl⟩,bz.mpr λx hx=>?_⟩;obtain⟨y,e,l⟩:=all x hx;unfold qK;rw[e];exact decide_eq_true l
theorem Iu{hs:List Str}{Q:List Row}{M:Int}{os:List Dd}(o:lI Q os):(dU hs Q M os).Nodup:=by
 unfold dU;exact List.Nodup.sublist (d9.trans (d9.map _)) o.nd
theorem QF{hs:List Str}(nd:hs.Nodup){R Q Q':List Row}{T:List Int}(i:HS hs R T)(q:DQ R Q)(q':DQ R Q')(sub:∀z∈Q,z∈Q'){x:Str}{y:Row}(e:uE Q x=some y):∃y',uE Q' x=some y'/\Lv hs.length y.c y'.c:=by
 obtain⟨h1,h2⟩:=ay.mp (n0 e);have h2:y.d.nm.1=x:=of_decide_eq_true h2;have hy':=sub y h1;have hm:y∈Q'.filter λz=>hB x z.d:=ay.mpr ⟨hy',decide_eq_true h2⟩;cases e':uE Q' x with
 |none=>
  have:=List.getLast?_eq_none_iff.mp e';rw[this]at hm;cases hm
 |some z=>
  refine⟨z,rfl,?_⟩;obtain⟨h3,h4⟩:=ay.mp (n0 e');have h4:z.d.nm.1=x:=of_decide_eq_true h4;have pw:(Q'.filter λz=>hB x z.d).Pairwise λa b=>a.d.nm.2<b.d.nm.2:=by
   refine List.Pairwise.imp_of_mem (λ{a b} ha hb r=>r ?_) (q'.inc.sublist d9);have h5:a.d.nm.1=x:=of_decide_eq_true (ay.mp ha).2;have h6:b.d.nm.1=x:=of_decide_eq_true (ay.mp hb).2;rw[h5,h6]
  have lt:y=z\/y.d.nm.2<z.d.nm.2:=by
   obtain⟨l,hl⟩:∃l,(Q'.filter λz=>hB x z.d)=l++[z]:=by
    obtain⟨l,hl⟩:=List.getLast?_eq_some_iff.mp e';exact⟨l,hl⟩
   rw[hl]at hm pw;rcases bh.mp hm with w|w
   ·exact .inr ((ik.mp pw).2.2 y w z (by simp))
   ·exact .inl (bf.mp w)
  rcases lt with rfl|lt
  ·exact λv _=>ff _
  ·obtain⟨⟨c0,v0,so,lv⟩,_⟩:=i.lt nd (q.sub y h1) (q'.sub z h3) (h2.trans h4.symm) lt;obtain⟨w,d0,hw,u0,ec,en,sd⟩:=(i.rw z (q'.sub z h3)).pre;have vz:=(i.rw z (q'.sub z h3)).vok;exact vz.cl y (q.sub y h1) w hw (by rw[h2,<-h4,en]) (by
    rw[RIs.c0 hw u0 ec w,if_pos rfl];have:z.d.nm.2=d0.getD w 0+1:=by rw[en]
    omega)
theorem QG{hs:List Str}(nd:hs.Nodup){R Q Q':List Row}{T:List Int}(i:HS hs R T)(q:DQ R Q)(q':DQ R Q')(sub:∀z∈Q,z∈Q'){M M':Int}(hM:M<=M'){os os':List Dd}(o:lI Q os)(o':lI Q' os'){p:Str×Int}(h:p∈dU hs Q M os):p∈dU hs Q' M' os':=by
 obtain⟨⟨z,hz,ez,lz⟩,all⟩:=(qP o).mp h;refine(qP o').mpr ⟨⟨z,sub z hz,ez,by omega⟩,λx hx=>?_⟩;obtain⟨y,e,l⟩:=all x hx;obtain⟨y',e',lv⟩:=QF nd i q q' sub e;refine⟨y',e',kz l (lv _ ?_)⟩;rw[<-ez];exact(qO (i.rw z (q.sub z hz)).hand).1
theorem Iv{hs:List Str}(nd:hs.Nodup){R Q:List Row}{T:List Int}(i:HS hs R T)(gf:Gf hs R T)(q:DQ R Q){M:Int}{os:List Dd}(o:lI Q os){x:Str}{n k:Int}(h:(x,n)∈dU hs Q M os)(h1:1<=k)(h2:k<=n):(x,k)∈dU hs Q M os:=by
 obtain⟨⟨z,hz,ez,lz⟩,all⟩:=(qP o).mp h;have hzR:=q.sub z hz;have hx:x∈hs:=by have:=(i.rw z hzR).hand;rw[ez]at this;exact this
 obtain⟨hw,ew⟩:=qO hx;have le:n<=T.getD (hs.idxOf x) 0:=by
  obtain⟨w,c0,hw',v0,ec,en,so⟩:=(i.rw z hzR).pre;have e2:w=hs.idxOf x:=FQ nd hw' hw (by rw[ew];rw[ez]at en;exact(congrArg Prod.fst en).symm);have:=(i.rw z hzR).vok.le w hw';rw[RIs.c0 hw' v0 ec w,if_pos rfl]at this;rw[ez]at en;have:n=c0.getD w 0+1:=congrArg Prod.snd en;rw[<-e2];omega
 obtain⟨y,hy,ey⟩:=gf (hs.idxOf x) hw k h1 (by omega);rw[ew]at ey;refine(qP o).mpr ⟨⟨y,q.dn z hz y hy (by rw[ey,ez]) (by rw[ey,ez];exact h2),ey,?_⟩,λx' hx'=>?_⟩
 ·by_cases e:k=n
  ·subst e;have:=FN i.inc hy hzR (by rw[ey,ez]);rw[this];exact lz
  ·have:=(i.lt nd hy hzR (by rw[ey,ez]) (by rw[ey,ez];show k<n;omega)).2;omega
 ·obtain⟨w,e,l⟩:=all x' hx';exact⟨w,e,kz h2 l⟩
def DV(acc:Seen)(p:Str×Int):Seen:=dput acc p.1 ((look acc p.1).getD 0+1)
def iC(l:List (Str×Int)):Seen:=l.foldl DV []
theorem Iw(x:Str):∀(l:List (Str×Int))(acc:Seen),look (l.foldl DV acc) x=if(l.filter λp=>decide (p.1=x))=[] then look acc x else some ((look acc x).getD 0+((l.filter λp=>decide (p.1=x)).length:Nat))
 |[],acc=>rfl
 |p::l,acc=>by
  rw[ou,Iw x l];have e:look (DV acc p) x=if x=p.1 then some ((look acc p.1).getD 0+1) else look acc x:=xO acc p.1 x _
  by_cases q:p.1=x
  ·have q':x=p.1:=q.symm;rw[e,if_pos q',<-q',fi,if_pos (decide_eq_true q)];simp only[List.cons_ne_nil,if_false,Option.getD_some,dg];split
   ·rename_i z;rw[z];rfl
   ·congr 1
    omega
  ·have q':¬ x=p.1:=λz=>q z.symm;have ef:(p::l).filter (λp=>decide (p.1=x))=l.filter λp=>decide (p.1=x):=by rw[fi,if_neg (by simpa using q)]
   rw[e,if_neg q',ef]
theorem Nr{l:List (Str×Int)}{p:Str×Int}(h:p∈l):look (iC l) p.1=some (((l.filter λq=>decide (q.1=p.1)).length:Nat):Int):=by
 unfold iC;rw[Iw p.1 l [],if_neg λz=>by
  have:p∈l.filter λq=>decide (q.1=p.1):=ay.mpr ⟨h,decide_eq_true rfl⟩;rw[z]at this;cases this]
 show some ((0:Int)+_)=_
 rw[Int.zero_add]
theorem Ui{l:List (Str×Int)}{x:Str}{n:Int}(hd:∀k,1<=k->k<=n->(x,k)∈l):n<=((l.filter λq=>decide (q.1=x)).length:Nat):=by
 have nd:((av n.toNat).map λk=>(x,((k:Nat):Int)+1)).Nodup:=List.Pairwise.map _ (λa b hne e=>hne (by
  have:=congrArg Prod.snd e;simp at this;omega)) List.nodup_range
 have sb:((av n.toNat).map λk=>(x,((k:Nat):Int)+1)) ⊆ l.filter λq=>decide (q.1=x):=λz hz=>by
  obtain⟨k,hk,rfl⟩:=aq.mp hz;have:=e8.mp hk;exact ay.mpr ⟨hd _ (by omega) (by omega),decide_eq_true rfl⟩
 have:=nd.length_le_of_subset sb;rw[af,jj]at this;omega
theorem Nt(l:List (Str×Int)):(iC l).length<=l.length:=by
 have:=lE l [] (λacc p=>(look acc p.1).getD 0+1);have e:(iC l).length<=([]:Seen).length+l.length:=this;simpa using e
theorem Iy{names:List (Str×Int)}(nd:names.Nodup)(l6:names.length<=60)(hd:∀x n,(x,n)∈names->∀k,1<=k->k<=n->(x,k)∈names){ln:Nat}{h:PH}(g:h[ln]?=some (.lst (names.map pv)))(Q:PV->PH->Prop)(k:∀h',Ext h h'->Q (.bl true) h'):(dS [.ref ln] h).W Q:=by
 refine eY ?_;unfold jM;rw[show List.map some [PV.ref ln]++cj (4 - [PV.ref ln].length) none=[some (.ref ln),none,none,none] from rfl]
 rw[aL];simp;refine now ?_;rw[aL];have gl:∀o:MO,(h++[o])[ln]?=some (.lst (names.map pv)):=λo=>Ext.app _ _ _ _ g;refine sC (n:=ln) (xs:=names.map pv) (h1:=h++[.dK []]) (λq δ h'=>h'=h++[.dK (emb (iC (names.take q)))]/\∃x2 x3,δ=[some (.ref ln),some (.ref h.length),x2,x3]) (by simp) (gl _) ⟨rfl,_,_,rfl⟩ (λq δ h' _ z=>by rw[z.1];exact gl _) ?_ ?_
 ·rintro q x δ h' hx ⟨rfl,x2,x3,rfl⟩;rw[au]at hx;obtain⟨p,hp,rfl⟩:=bc.mp hx;refine⟨_,rfl,?_⟩;have g1:(h++[MO.dK (emb (iC (names.take q)))])[h.length]?=some (.dK (emb (iC (names.take q)))):=aK;have hlen:(emb (iC (names.take q))).length<16777216:=by
   unfold emb;rw[af];have:=Nt (names.take q);have e:(List.take q names).length<=names.length:=by rw[eu];omega
   omega
  have e0:(aU (emb (iC (names.take q))) (mz p.1)).getD (PV.int 0)=.int ((look (iC (names.take q)) p.1).getD 0):=by
   rw[kZ];cases look (iC (names.take q)) p.1 <;> rfl
  have e1:iC (names.take (q+1))=DV (iC (names.take q)) p:=by
   unfold iC;rw[fq,hp,List.foldl_append];rfl
  have e2:∀o:MO,(h++[MO.dK (emb (iC (names.take q)))]).set h.length o=h++[o]:=λo=>by
   rw[List.set_append_right _ _ (ak _),Nat.sub_self];rfl
  simp[kX,kO g1,BC g1,e0,HV g1 hlen,BW,e1,e2,DV]
 ·rintro δ h' ⟨rfl,x2,x3,rfl⟩;rw[af,ja];refine now ?_;rw[aL];have g1:(h++[MO.dK (emb (iC names))])[h.length]?=some (.dK (emb (iC names))):=aK;have gn:=gl (.dK (emb (iC names)));have xe:Ext h (h++[MO.dK (emb (iC names))]):=Ext.app _ _;generalize h++[MO.dK (emb (iC names))]=h1 at g1 gn xe;generalize h.length=dl at g1;refine sC (n:=ln) (xs:=names.map pv) (h1:=h1) (λq δ h'=>h'=h1/\∃x2 x3,δ=[some (.ref ln),some (.ref dl),x2,x3]) (by simp) gn ⟨rfl,_,_,rfl⟩ (λq δ h' _ z=>by rw[z.1];exact gn) ?_ ?_
  ·rintro q x δ h' hx ⟨rfl,x2,x3,rfl⟩;rw[au]at hx;obtain⟨p,hp,rfl⟩:=bc.mp hx;refine⟨_,rfl,?_⟩;have hpm:=cq hp;have hl:=Nr hpm;have hge:=Ui (l:=names) (x:=p.1) (n:=p.2) (hd p.1 p.2 hpm);have va:vIx (.ref dl) (.str p.1) h'=.ok (.int ((names.filter λq=>decide (q.1=p.1)).length:Nat)) h':=by
    have e:aU (emb (iC names)) (mz p.1)=some (.int ((names.filter λq=>decide (q.1=p.1)).length:Nat)):=by rw[kZ,hl];rfl
    simp[vIx,aN,Br,nZ,g1,e]
   generalize (((names.filter λq=>decide (q.1=p.1)).length:Nat):Int)=N at va hge;have hno:¬ N<p.2:=by omega
   simp[kY,va,hno]
  ·rintro δ h' ⟨rfl,x2,x3,rfl⟩;refine now ?_;have lv:=gI gn;rw[af]at lv;have ls:mE (.ref ln) h'=.ok (.int names.length) h':=by
    have:=FC (h:=h') (n:=ln) (ys:=names.map pv) (by simp[aN,gn]) (λz hz=>by obtain⟨p,_,rfl⟩:=aq.mp hz;rfl) (List.Pairwise.map _ (λa b hne e=>hne (sR e)) nd) (by rw[af];exact l6);rw[af]at this;exact this
   simp[ls,lv];exact k _ xe
theorem Uj{hs:List Str}(nd:hs.Nodup)(h0:hs≠[]){R Q:List Row}{T:List Int}(i:HS hs R T)(q:DQ R Q){D:List De}(mem:∀d,d∈D↔d∈Q.map (·.d)):0<=bnd hs D:=by
 obtain⟨m1,_⟩:=kT (ns:=hs.map λx=>stV (maxD ((D.filter λd=>acB d.ac).filter λd=>decide (d.nm.1=x)))) (by simpa using h0)
 obtain⟨x,hx,ex⟩:=aq.mp m1
 show 0<=jI _
 rw[<-ex];cases e:maxD ((D.filter λd=>acB d.ac).filter λd=>decide (d.nm.1=x)) with
 |none=>exact ff _
 |some d=>
  obtain⟨⟨s,hs',es,_⟩,_⟩:=C1 mem e;have:=(i.pos nd (q.sub s hs')).1;rw[es]at this
  show 0<=gP d
  omega
theorem Iz{hs:List Str}(nd:hs.Nodup)(h0:hs≠[])(h6:hs.length<=6){R:List Row}{T:List Int}(i:HS hs R T)(gf:Gf hs R T)(lR:R.length<=50){Q Q':List Row}(q:DQ R Q)(q':DQ R Q')(lQ:Q.length<=50)(lQ':Q'.length<=50)(sub:∀z∈Q,z∈Q'){D D':List De}(lD:D.length<=50)(lD':D'.length<=50)(mem:∀d,d∈D↔d∈Q.map (·.d))(mem':∀d,d∈D'↔d∈Q'.map (·.d)){lh ld le:Nat}{h:PH}(gh:h[lh]?=some (.lst (hs.map PV.str)))(gd:h[ld]?=some (.lst (D.map deV)))(ge:h[le]?=some (.lst (D'.map deV)))(K:PV->PH->Prop)
  (k:∀h',Ext h h'->K (.bl true) h'):(xN [.ref lh,.ref ld,.ref le] h).W K:=by
 have okQ:∀z∈Q,fB hs z:=λz hz=>(i.rw z (q.sub z hz)).ok;have okQ':∀z∈Q',fB hs z:=λz hz=>(i.rw z (q'.sub z hz)).ok;obtain⟨os,oo⟩:=DS h6 q.inc okQ (by omega);obtain⟨os',oo'⟩:=DS h6 q'.inc okQ' (by omega);obtain⟨out,fo⟩:=DT h6 q.inc okQ (by omega);obtain⟨out',fo'⟩:=DT h6 q'.inc okQ' (by omega);have same:=FS nd i q q' sub mem fo fo';have bm:bnd hs D<=bnd hs D':=by
  by_cases p:0<bnd hs D
  ·exact Np nd h0 i q' sub mem mem' p
  ·have:=Uj nd h0 i q' mem';omega
 have sup:∀p∈dU hs Q (bnd hs D) os,p∈dU hs Q' (bnd hs D') os':=λp hp=>QG nd i q q' sub bm oo oo' hp;have nd1:=Iu (hs:=hs) (M:=bnd hs D) oo;have nd2:=Iu (hs:=hs) (M:=bnd hs D') oo';have dn1:∀x n,(x,n)∈dU hs Q (bnd hs D) os->∀k,1<=k->k<=n->(x,k)∈dU hs Q (bnd hs D) os:=λx n hp k a b=>Iv nd i gf q oo hp a b;have dn2:∀x n,(x,n)∈dU hs Q' (bnd hs D') os'->∀k,1<=k->k<=n->(x,k)∈dU hs Q' (bnd hs D') os':=λx n hp k a b=>Iv nd i gf q' oo' hp a b;have los:=oo.len q.inc;have los':=oo'.len q'.inc;have lS:∀(Q:List Row)(M:Int)(os:List Dd),(dU hs Q M os).length<=os.length:=λQ M os=>by
  unfold dU;have a1:=fh (allB hs Q) ((os.filter (nI M)).map (·.nm));rw[af]at a1;have a2:=fh (nI M) os;omega
 have l1:=lS Q (bnd hs D) os;have l2:=lS Q' (bnd hs D') os';have lo':=fo'.len;have low:∀d∈D',gP d<=bnd hs D->d∈D:=λd hd l=>by
  obtain⟨y,hy,rfl⟩:=aq.mp ((mem' d).mp hd);exact(mem _).mpr (aq.mpr ⟨y,Nm nd i q mem (q'.sub y hy) l,rfl⟩)
 refine eY ?_;unfold FI;rw[show List.map some [PV.ref lh,.ref ld,.ref le]++cj (7 - [PV.ref lh,.ref ld,.ref le].length) none=[some (.ref lh),some (.ref ld),some (.ref le),none,none,none,none] from rfl]
 rw[aL];simp;refine qH h0 h6 (by omega) (Nf h6 okQ mem) gh gd _ λh1 x1=>?_;have eM:jI (hs.map λx=>stV (maxD ((D.filter λd=>acB d.ac).filter λd=>decide (d.nm.1=x))))=bnd hs D:=rfl;rw[eM];refine now ?_;rw[aL,pL];obtain⟨p2,h2,e2,l4,rfl,x2,g2⟩:∃p h',bB [none,some 3] (aZ (mV 2)) (gN 0) (bQ (aD vLe (aY 1 cZ (aB (mV 0) aI)) (mV 1))) (mV 0) [some (.ref lh),some (.ref ld),some (.ref le),some (.int (bnd hs D)),none,none,none] h1=.ok p h'/\∃l,p=.ref l/\Ext h1 h'/\h'[l]?=some (.lst ((D'.filter λd=>decide (gP d<=bnd hs D)).map deV)):=by
  have ge1:=x1 _ _ ge;exact gH (qI (ys:=D') (emb:=deV) (λd=>decide (gP d<=bnd hs D)) deV (cW (by simp) ge1) (cH ge1) (by omega) (λd hd=>⟨_,rfl,λh3 x3 Q3 k3=>by
   simp[bX];refine DH d (Nf h6 okQ' mem' d hd) _ _ λh5 x5=>?_;simp;exact k3 _ x5,λh3 x3=>by simp[bX]⟩) λl3 h3 x3 l3' g3=>⟨l3,rfl,x3,g3⟩)
 rw[e2,kK];have lL:(D'.filter λd=>decide (gP d<=bnd hs D)).length<=50:=df (fh _ _) lD';have mL:∀d∈D'.filter λd=>decide (gP d<=bnd hs D),d∈D:=λd hd=>low d (ay.mp hd).1 (of_decide_eq_true (ay.mp hd).2);generalize (D'.filter λd=>decide (gP d<=bnd hs D))=L at g2 lL mL;simp only[my,List.set_cons_zero];have x02:=x1.trans x2;refine now ?_;rw[aL,pM];have hc:=cX (m:=mV 4) (n:=l4) (js:=[none,some 1]) (tg:=gN 0) (tst:=bQ (aD cE (mV 0) (mV 1))) (elt:=mV 0) (δ:=[some (.ref lh),some (.ref ld),some (.ref le),some (.int (bnd hs D)),some (.ref l4),none,none]) (h:=h2) (h1:=h2) (ys:=L) (emb:=deV)
  (λ_=>none) (by simp) g2 (by omega) (λd hd=>⟨[some (deV d),some (.ref ld)],by simp[bX],λh3 x3=>by
   have gd3:=(x02.trans x3) _ _ gd;have vn:cE (deV d) (.ref ld) h3=.ok (.bl false) h3:=by
    rw[uA gd3,wC gd3 (FK _) (Ql _),decide_eq_true (aq.mpr ⟨d,mL d hd,rfl⟩)];rfl
   simp[vn]⟩)
 rw[show L.filterMap (λ_=>(none:Option PV))=[] by simp]at hc;have ne:=Bw (Ext.app (h2++[MO.lst []]) [MO.lst []] _ _ (aK (h:=h2) (o:=MO.lst []))) (aK (h:=h2++[MO.lst []]) (o:=MO.lst [])) rfl rfl;rw[decide_eq_true rfl]at ne;have x3:Ext h2 (h2++[MO.lst []]++[MO.lst []]):=(Ext.app _ _).trans (Ext.app _ _);generalize hA3:h2++[MO.lst []]=hA at hc ne x3;generalize h2.length=la at hc ne;simp[hc,ne];have x03:=x02.trans x3;generalize hA++[MO.lst []]=h3 at x03;refine now ?_;rw[aL,pM];obtain⟨p4,h4,e4,l5,rfl,x4,g4⟩:=gH (FO h0 h6 q.inc okQ (by omega) (by omega) mem fo (x03 _ _ gh) (x03 _ _ gd) (λp h'=>∃l,p=.ref l/\Ext h3 h'/\h'[l]?=some (.lst ((out.filter (nI (bnd hs D))).map dP))) λl h' y _ g=>⟨l,rfl,y,g⟩);have x04:=x03.trans x4;obtain⟨p5,h5,e5,l6,rfl,x5,g5⟩:=gH (xS h6 q'.inc okQ' (by omega) mem' (x04 _ _ ge) (λp h'=>∃l,p=.ref l/\Ext h4 h'/\h'[l]?=some (.lst (out'.map dP))) λo l h' y g o'=>⟨l,rfl,y,by rw[fo'.one o'];exact g⟩);obtain⟨p6,h6',e6,l7,rfl,x6,g6⟩:∃p h',bB [none,some 3] (aZ (aY 1 dC (aB (mV 2) aI))) (gN 0) (bQ (aD vLe (aY 1 cZ (aB (mV 0) aI)) (mV 1))) (mV 0) [some (.ref lh),some (.ref ld),some (.ref le),some (.int (bnd hs D)),some (.ref l4),none,none] h4=.ok p h'/\∃l,p=.ref l/\Ext h5 h'/\h'[l]?=some (.lst ((out'.filter (nI (bnd hs D))).map dP)):=by
  refine gH (qI (ys:=out') (emb:=dP) (nI (bnd hs D)) dP (cW (by rw[wB];simp[e5]) g5) (cH g5) (by omega) (λd hd=>⟨_,rfl,λh3 x3 Q3 k3=>?_,λh3 x3=>by simp[bX]⟩) λl3 h3 x3 l3' g3=>⟨l3,rfl,x3,g3⟩);obtain⟨z,hz,rfl⟩:=fo'.sub hd;simp[bX];refine mK (dD z.d) ((okQ' z hz).l100 h6) _ _ λh5 x5=>?_;simp;exact k3 _ x5
 have ne2:=Bw ((x5.trans x6) _ _ g4) g6 (Ng λd hd=>fo.sub (ay.mp hd).1) (Ng λd hd=>fo'.sub (ay.mp hd).1);rw[same,decide_eq_true rfl]at ne2;simp[e4,e6,ne2];have x06:=x04.trans (x5.trans x6);refine now ?_;rw[aL];simp;refine Ij nd h0 h6 q.inc okQ (by omega) (by omega) mem oo (x06 _ _ gh) (x06 _ _ gd) _ λln h7 x7 _ gn=>?_;have x07:=x06.trans x7;refine now ?_;rw[aL];simp;refine Ij nd h0 h6 q'.inc okQ' (by omega) (by omega) mem' oo' (x07 _ _ gh) (x07 _ _ ge) _ λlm h8 x8 _ gm=>?_;have x08:=x07.trans x8;have gn8:=x8 _ _ gn;generalize dU hs Q (bnd hs D) os=names at gn gn8 sup nd1 dn1 l1;generalize dU hs Q' (bnd hs D') os'=after at gm sup nd2 dn2 l2;refine now ?_;rw[aL,pM];obtain⟨p9,h9,e9,rfl,x9⟩:=gH (qH h0 h6 (by omega) (Nf h6 okQ' mem') (x08 _ _ gh) (x08 _ _ ge) (λp h'=>p=.int (bnd hs D')/\Ext h8 h') λh' y=>⟨rfl,y⟩);have hc2:=cX (m:=mV 5) (n:=ln) (js:=[none,some 6]) (tg:=gN 0) (tst:=bQ (aD cE (mV 0) (mV 1))) (elt:=mV 0) (δ:=[some (.ref lh),some (.ref ld),some (.ref le),some (.int (bnd hs D)),some (.ref l4),some (.ref ln),some (.ref lm)]) (h:=h9) (h1:=h9) (ys:=names) (emb:=pv)
  (λ_=>none) (by simp) (x9 _ _ gn8) (by omega) (λp hp=>⟨[some (pv p),some (.ref lm)],by simp[bX],λh3 x3=>by
   have gm3:=(x9.trans x3) _ _ gm;have vn:cE (pv p) (.ref lm) h3=.ok (.bl false) h3:=by
    rw[uA gm3,wC gm3 rfl (U' _),decide_eq_true (U6.mpr (sup p hp))];rfl
   simp[vn]⟩)
 rw[show names.filterMap (λ_=>(none:Option PV))=[] by simp]at hc2;have ne3:=Bw (Ext.app (h9++[MO.lst []]) [MO.lst []] _ _ (aK (h:=h9) (o:=MO.lst []))) (aK (h:=h9++[MO.lst []]) (o:=MO.lst [])) rfl rfl;rw[decide_eq_true rfl]at ne3;have x10:Ext h9 (h9++[MO.lst []]++[MO.lst []]):=(Ext.app _ _).trans (Ext.app _ _);generalize hA9:h9++[MO.lst []]=hC at hc2 ne3 x10;generalize h9.length=lc at hc2 ne3;have nlt:¬ bnd hs D'<bnd hs D:=by omega
 generalize bnd hs D'=M' at e9 nlt;generalize bnd hs D=M at hc2 nlt;simp[e9,hc2,ne3,nlt];have x11:=x9.trans x10;generalize hC++[MO.lst []]=h10 at x11;refine now ?_;rw[kL];obtain⟨p12,h12,e12,rfl,x12⟩:=gH (Iy nd1 (by omega) dn1 (x11 _ _ gn8) (λp h'=>p=.bl true/\Ext h10 h') λh' y=>⟨rfl,y⟩);obtain⟨p13,h13,e13,rfl,x13⟩:=gH (Iy nd2 (by omega) dn2 ((x11.trans x12) _ _ gm) (λp h'=>p=.bl true/\Ext h12 h') λh' y=>⟨rfl,y⟩);simp[e12,e13];exact k _ (x08.trans (x11.trans (x12.trans x13)))
theorem QH{δ:Ev}{h h1:PH}{js:List (Option Nat)}{tg:Mg}{elt:Me}{g:PH->Bool}{α:Type}{mi:Mi}{ys:List α}{emb:α->PV}{Q:PV->PH->Prop}(G:α->MO)(e:mi δ h=.ok ⟨ys.map emb,g⟩ h1)(hg:∀h,Ext h1 h->g h=true)(hz:ys.length<=16777216)
  (step:∀y∈ys,∃δ1,tg (emb y) (bX js δ)=some δ1/\∀h,Ext h1 h->∃n h',elt δ1 h=.ok (.ref n) h'/\Ext h h'/\h.length<=n/\h'[n]?=some (G y))
  (k:∀l h'(zs:List (α×Nat)),Ext h1 h'->h1.length<=l->zs.map (·.1)=ys->(zs.map (·.2)).Nodup->h'[l]?=some (.lst (zs.map λz=>PV.ref z.2))->(∀z∈zs,l<z.2/\h'[z.2]?=some (G z.1))->Q (.ref l) h'):(bB js mi tg fK elt δ h).W Q:=by
 unfold bB;rw[e,Rs.bind_ok];refine pO (λi h'=>Ext h1 h'/\∃zs:List (α×Nat),zs.map (·.1)=ys.take i/\(zs.map (·.2)).Nodup/\h'[h1.length]?=some (.lst (zs.map λz=>PV.ref z.2))/\∀z∈zs,h1.length<z.2/\h'[z.2]?=some (G z.1)) (ys.map emb) 0 _ ⟨Ext.app _ _,[],by simp,by simp,by simp,λz hz=>by simp at hz⟩ (λi x h' _ hx hi=>?_) (λh' hi=>?_)
 ·obtain⟨x1,zs,ez,nd,g1,oz⟩:=hi;have hx:(ys.map emb)[i]?=some x:=by simpa using hx
  rw[au]at hx;obtain⟨y,hy,rfl⟩:=bc.mp hx;have hil:=(ab.mp hy).1;obtain⟨δ1,ht,hs⟩:=step y (cq hy);have htk:ys.take (i+1)=ys.take i++[y]:=by rw[fq,hy];rfl
  refine⟨hg _ x1,δ1,ht,?_⟩;have hY:fK δ1 h'=.ok true h':=rfl;rw[hY,kK,if_pos rfl];obtain⟨n,h2,e2,x2,ln,gn⟩:=hs h' x1;have lz:zs.length<=i:=by
   have:=congrArg List.length ez;rw[af,eu]at this;omega
  have l1:h1.length<h'.length:=(ab.mp g1).1;rw[e2,kK];refine⟨_,x2 _ _ g1,by rw[af];omega,(x1.trans x2).setN (ak _),zs++[(y,n)],by rw[c7,ez,htk];rfl,?_,by rw[eC (x2 _ _ g1),c7];rfl,λz hz=>?_⟩
  ·rw[c7,jk];refine⟨nd,by simp,λa ha b hb=>?_⟩;obtain⟨z,hz,rfl⟩:=aq.mp ha;simp at hb;subst hb;have:=(ab.mp (oz z hz).2).1;omega
  ·rcases bh.mp hz with q|q
   ·obtain⟨a,b⟩:=oz z q;exact⟨a,by rw[bg (by omega)];exact x2 _ _ b⟩
   ·simp at q;subst q;exact⟨by omega,by rw[bg (by omega)];exact gn⟩
 ·obtain⟨x1,zs,ez,nd,g1,oz⟩:=hi;rw[Nat.zero_add,af,ja]at ez;exact⟨hg _ x1,k _ _ zs x1 (ak _) ez nd g1 oz⟩
structure Hm(hs:List Str)(hB:PH)(lr lm q:Nat)(R:List Row)(T:List Int)(Ms:List (Cnt×Nat))(h:PH):Prop where
 x:Ext hB h
 i:HS hs R T
 lR:R.length<=q
 ne:∃M m,Ms=M++[m]/\∀v,v<hs.length->(bR m.1 v).getD v 0=T.getD v 0
 gm:h[lm]?=some (.lst (Ms.map λm=>PV.ref m.2))
 lM:Ms.length=q+1
 ra:RAt h lr R
 mo:∀m∈Ms,MOk hs R T m.1
 ma:∀m∈Ms,MAt h m.2 m.1
 rN:∀z∈R,z.r≠lr/\z.r≠lm
 mN:∀m∈Ms,(m.2≠lr/\m.2≠lm)/\∀p∈m.1,p.2≠lr/\p.2≠lm
 gf:Gf hs R T
 pw:Ms.Pairwise λa b=>∀v,v<hs.length->Lv hs.length (bR a.1 v) (bR b.1 v)
 b:hB.length<=lr/\hB.length<=lm/\lr≠lm
theorem MOk.up{hs:List Str}{R R':List Row}{T T':List Int}{m:Cnt}(up:∀c,VOk hs R T c->VOk hs R' T' c)(o:MOk hs R T m):MOk hs R' T' m:=⟨o.len,λp hp=>up _ (o.vo p hp),o.own⟩
theorem QI{hs:List Str}(nd:hs.Nodup)(h0:hs≠[])(h6:hs.length<=6){hB h:PH}{lr lm lh q:Nat}{R:List Row}{T:List Int}{Ms:List (Cnt×Nat)}(t:Hm hs hB lr lm q R T Ms h)(hq:q<=900)(gh:hB[lh]?=some (.lst (hs.map PV.str)))(c:Int)(x0 x1 x6 x7 x8 x9 x10 x11:Option PV)(E:FE)
  (k:∀R' T' Ms' h',Hm hs hB lr lm (q+1) R' T' Ms' h'->(∀n o,n≠lr->n≠lm->h[n]?=some o->h'[n]?=some o)->E.nx [x0,x1,some (.ref lh),some (.ref lr),some (.ref lm),some (.int c),x6,x7,x8,x9,x10,x11] h'):
  (BU [x0,x1,some (.ref lh),some (.ref lr),some (.ref lm),some (.int c),x6,x7,x8,x9,x10,x11] h).W E:=by
 unfold BU;obtain⟨M,m,eM,tp⟩:=t.ne;have hm:m∈Ms:=by rw[eM];simp
 have il:=jE t.gm;have vl:vIx (.ref lm) (.int (-1)) h=.ok (.ref m.2) h:=by
  have e:atI (Ms.map λm=>PV.ref m.2) (-1)=some (.ref m.2):=by rw[eM,c7];exact LY
  rw[gW t.gm,e];rfl
 have lmh:lm<h.length:=(ab.mp t.gm).1;have lrh:lr<h.length:=(ab.mp t.ra.1).1;obtain⟨p,h2,e2,R',T',m',r',nx,rfl⟩:=gH (QE nd h0 h6 t.i (by have:=t.lR;omega) (mr:=m.2) (t.mo m hm) tp c (N:=λn=>n≠lr/\n≠lm) (λn hn=>⟨by omega,by omega⟩) (λz=>z.1 rfl) t.ra (t.ma m hm) t.rN (t.mN m hm) (t.x _ _ gh) (λp h'=>∃R' T' m' r',Nx hs R T m.1 lr (λn=>n≠lr/\n≠lm) h R' T' m' r' h'/\p=.ref r') λR' T' m' r' h' nx=>⟨R',T',m',r',nx,rfl⟩);have gm2:=nx.kp _ _ (k0 t.b.2.2) t.gm;have ap:=gJ (p:=.ref r') gm2 (by rw[af,t.lM];omega);simp[il,vl,e2,ap];have kp:∀n o,n≠lr->n≠lm->h[n]?=some o->(h2.set lm (.lst ((Ms.map λm=>PV.ref m.2)++[.ref r'])))[n]?=some o:=λn o a b e=>by
  rw[bg (k0 b)];exact nx.kp n o a e
 have kp2:∀n o,n≠lm->h2[n]?=some o->(h2.set lm (.lst ((Ms.map λm=>PV.ref m.2)++[.ref r'])))[n]?=some o:=λn o b e=>by
  rw[bg (k0 b)];exact e
 refine k R' T' (Ms++[(m',r')]) _ ⟨λn o e=>?_,nx.hi,by have:=nx.lR;have:=t.lR;omega,⟨Ms,(m',r'),rfl,nx.tp⟩,by rw[eC gm2,c7];rfl,by rw[fg,t.lM];rfl,⟨kp2 _ _ t.b.2.2 nx.ra.1,λz hz=>kp2 _ _ (nx.rN z hz).2 (nx.ra.2 z hz)⟩,λz hz=>?_,λz hz=>?_,nx.rN,λz hz=>?_,nx.gf t.gf,?_,t.b⟩ kp
 ·have hn:=(ab.mp e).1;have:=t.b;exact kp n o (by omega) (by omega) (t.x _ _ e)
 ·rcases bh.mp hz with q|q
  ·exact(t.mo z q).up nx.up
  ·simp at q;subst q;exact nx.mo
 ·rcases bh.mp hz with q|q
  ·have a:=t.ma z q;have b:=t.mN z q;exact⟨kp _ _ b.1.1 b.1.2 a.1,λp hp=>kp _ _ (b.2 p hp).1 (b.2 p hp).2 (a.2 p hp)⟩
  ·simp at q;subst q;exact⟨kp2 _ _ nx.mN.1.2 nx.ma.1,λp hp=>kp2 _ _ (nx.mN.2 p hp).2 (nx.ma.2 p hp)⟩
 ·rcases bh.mp hz with q|q
  ·exact t.mN z q
  ·simp at q;subst q;exact nx.mN
 ·rw[ik];refine⟨t.pw,jf _ _,λy hy z hz v hv=>?_⟩;simp at hz;subst hz;have pw:=t.pw;rw[eM]at hy pw;rcases bh.mp hy with q|q
  ·exact λw hw=>kz ((ik.mp pw).2.2 y q m (by simp) v hv w hw) (nx.mn v hv w hw)
  ·simp at q;subst q;exact nx.mn v hv
theorem IA{h:PH}{l:Nat}{Ms:List (Cnt×Nat)}(g:h[l]?=some (.lst (Ms.map λm=>PV.ref m.2))){k:Nat}(hk:k<Ms.length):vIx (.ref l) (.int (k:Int)) h=.ok (.ref Ms[k].2) h:=by
 rw[gW g,show atI (Ms.map λm=>PV.ref m.2) (k:Int)=some (.ref Ms[k].2) from jY (by rw[au,gx hk];rfl)]
 rfl
theorem QJ{hs:List Str}(nd:hs.Nodup)(h0:hs≠[])(h6:hs.length<=6){R:List Row}{T:List Int}(i:HS hs R T)(gf:Gf hs R T)(lR:R.length<=50){m m2:Cnt}{mr mr2:Nat}(mo:MOk hs R T m)(mo2:MOk hs R T m2){u:Nat}(hu:u<hs.length)(lv:Lv hs.length (bR m u) (bR m2 u)){lh ld lm a b:Nat}{h:PH}(gh:h[lh]?=some (.lst (hs.map PV.str)))(gd:h[ld]?=some (.lst ((R.map (·.d)).map deV)))(vs:∀h',Ext h h'->vIx (.ref lm) (.int (b:Int)) h'=.ok (.ref mr) h')(vl:∀h',Ext h h'->vIx (.ref lm) (.int (a:Int)) h'=.ok (.ref mr2) h')(ma:MAt h mr m)(ma2:MAt h mr2 m2)(x0 x1 x3 x5 x10 x11:Option PV)(E:FE)
  (k:∀h' y10 y11,Ext h h'->E.nx [x0,x1,some (.ref lh),x3,some (.ref lm),x5,some (.ref ld),some (.int (a:Int)),some (.int (b:Int)),some (.int (u:Int)),y10,y11] h'):
  (BV [x0,x1,some (.ref lh),x3,some (.ref lm),x5,some (.ref ld),some (.int (a:Int)),some (.int (b:Int)),some (.int (u:Int)),x10,x11] h).W E:=by
 unfold BV;have hum:u<m.length:=by rw[mo.len];exact hu
 have hum2:u<m2.length:=by rw[mo2.len];exact hu
 have vu:=VOk.at mo hu;have vu2:=VOk.at mo2 hu;have gu:=ma.2 _ (sT hum);have gu2:=ma2.2 _ (sT hum2);have q:=dq (hs:=hs) i.inc (bR m u);have q2:=dq (hs:=hs) i.inc (bR m2 u);have qR:DQ R R:=⟨λ_ z=>z,i.inc,λ_ _ y hy _ _=>hy⟩;have hm:∀d∈R.map (·.d),d.nm.1∈hs:=λd hd=>by obtain⟨z,hz,rfl⟩:=aq.mp hd;exact(i.rw z hz).hand
 have lQ:∀c,(Qr hs R c).length<=50:=λc=>df (fh _ _) lR;have sub:∀z∈Qr hs R (bR m u),z∈Qr hs R (bR m2 u):=λz hz=>by
  obtain⟨z1,z2⟩:=ay.mp hz;have z3:z.d.nm.2<=(bR m u).getD (hs.idxOf z.d.nm.1) 0:=of_decide_eq_true z2;exact ay.mpr ⟨z1,decide_eq_true (kz z3 (lv _ (qO (i.rw z z1).hand).1))⟩
 have mf:∀c d,d∈(R.map (·.d)).filter (tkB hs c)↔d∈(Qr hs R c).map (·.d):=λc d=>by
  rw[List.filter_map];rfl
 have lf:∀c,((R.map (·.d)).filter (tkB hs c)).length<=50:=λc=>df (fh _ _) (by rw[af];exact lR);have lRd:(R.map (·.d)).length<=50:=by rw[af];exact lR
 have va:=uZ ma.1 hum;have vs0:=vs h (Ext.refl _);rw[aL,pL];obtain⟨p1,h1,e1,l1,rfl,y1,g1⟩:=gH (DU (D:=R.map (·.d)) (by omega) hm vu.len gd gh gu (λp h'=>∃l,p=.ref l/\Ext h h'/\h'[l]?=some (.lst (((R.map (·.d)).filter (tkB hs (bR m u))).map deV))) λl h' x' g'=>⟨l,rfl,x',g'⟩);simp[vs0,va,e1];refine now ?_;have va2:=uZ (y1 _ _ ma2.1) hum2;have vl1:=vl h1 y1;rw[aL,pL];obtain⟨p2,h2,e2,l2,rfl,y2,g2⟩:=gH (DU (D:=R.map (·.d)) (by omega) hm vu2.len (y1 _ _ gd) (y1 _ _ gh) (y1 _ _ gu2) (λp h'=>∃l,p=.ref l/\Ext h1 h'/\h'[l]?=some (.lst (((R.map (·.d)).filter (tkB hs (bR m2 u))).map deV))) λl h' x' g'=>⟨l,rfl,x',g'⟩);have rv:=Jv g2;rw[<-List.map_reverse]at rv;have mem2:∀d,d∈((R.map (·.d)).filter (tkB hs (bR m2 u))).reverse↔d∈(Qr hs R (bR m2 u)).map (·.d):=λd=>by
  rw[List.mem_reverse];exact mf _ d
 have lD2:(((R.map (·.d)).filter (tkB hs (bR m2 u))).reverse).length<=50:=by
  rw[List.length_reverse];exact lf _
 generalize ((R.map (·.d)).filter (tkB hs (bR m2 u))).reverse=D2 at rv mem2 lD2;have y3:Ext h2 (h2++[MO.lst (D2.map deV)]):=Ext.app _ _;have g3:(h2++[MO.lst (D2.map deV)])[h2.length]?=some (.lst (D2.map deV)):=aK;generalize h2++[MO.lst (D2.map deV)]=h3 at rv y3 g3;generalize h2.length=l3 at rv g3;simp[vl1,va2,e2,rv];have z3:=y1.trans (y2.trans y3);refine now ?_;rw[pM];obtain⟨p4,h4,e4,rfl,y4⟩:=gH (Iz nd h0 h6 i gf lR q q2 (lQ _) (lQ _) sub (lf _) lD2 (mf _) mem2 (z3 _ _ gh) ((y2.trans y3) _ _ g1) g3 (λp h'=>p=.bl true/\Ext h3 h') λh' y=>⟨rfl,y⟩);have z4:=z3.trans y4;obtain⟨p5,h5,e5,rfl,y5⟩:=gH (Iz nd h0 h6 i gf lR q2 qR (lQ _) lR q2.sub lD2 lRd mem2 (λ_=>pb) (z4 _ _ gh) (y4 _ _ g3) (z4 _ _ gd) (λp h'=>p=.bl true/\Ext h4 h') λh' y=>⟨rfl,y⟩);simp[e4,e5];exact k _ _ _ (z4.trans y5)
theorem main(ns:List Int)(hl:ns.length<=63):∃h,MR [.fl (ns.map PV.int)] []=.ok (.bl true) h:=by
 have w:(MR [.fl (ns.map PV.int)] []).W λp _=>p=.bl true:=by
  refine eY ?_;unfold MQ;rw[show List.map some [PV.fl (ns.map PV.int)]++cj (12 - [PV.fl (ns.map PV.int)].length) none=[some (.fl (ns.map PV.int)),none,none,none,none,none,none,none,none,none,none,none] from rfl]
  rw[aL];simp;refine now ?_;rw[aL];obtain⟨c,hif⟩:∃c:Int,∀E:FE,E.nx [some (.fl (ns.map PV.int)),some (.int c),none,none,none,none,none,none,none,none,none,none] []->(iI (bQ (aD vGt (mCB gF (aB (mV 0) aI)) (mC (.int 0)))) (bK 1 (aD vAt (mV 0) (mC (.int 0)))) kH [some (.fl (ns.map PV.int)),some (.int 0),none,none,none,none,none,none,none,none,none,none] []).W E:=by
   by_cases e:0<ns.length
   ·obtain⟨c,hc⟩:∃c,atI (ns.map PV.int) 0=some (.int c):=⟨ns[0],jY (i:=0) (by rw[au,gx e];rfl)⟩;exact⟨c,λE k=>by simp[e,hc];exact k⟩
   ·exact⟨0,λE k=>by simp[e];exact k⟩
  refine hif _ ?_;refine now ?_;rw[aL];simp;refine Nl c [] _ λhs lh hB x1 b1 hn nd gh=>?_;have h0:hs≠[]:=λz=>by rw[z]at hn;simp at hn
  have h6:=hn.2;clear x1 b1;refine now ?_;rw[aL];simp;have xr:Ext hB (hB++[MO.lst []]):=Ext.app _ _;have gr:(hB++[MO.lst []])[hB.length]?=some (.lst (([]:List Row).map rwV)):=aK;have lr1:hB.length<(hB++[MO.lst []]).length:=(ab.mp gr).1;generalize hB++[MO.lst []]=h1 at xr gr lr1;generalize elr:hB.length=lr at gr lr1;refine now ?_;rw[aL,pL];have gh1:=xr _ _ gh;have w0:(bB [none,some 2] (aZ (mV 2)) (gN 0) fK (bB [none] (aZ (mV 1)) (gN 0) fK (mC (.int 0))) [some (.fl (ns.map PV.int)),some (.int c),some (.ref lh),some (.ref lr),none,none,none,none,none,none,none,none] h1).W λp h2=>∃la m,p=.ref la/\Ext h1 h2/\h1.length<=la/\MAt h2 la m/\(∀p∈m,h1.length<=p.2)/\m.length=hs.length/\∀p∈m,p.1=cj hs.length 0:=by
   refine QH (h1:=h1) (ys:=hs) (emb:=PV.str) (g:=nE lh (hs.map PV.str)) (λ_=>.lst ((cj hs.length (0:Int)).map PV.int)) (cW (by simp) gh1) (cH gh1) (by omega) (λy _=>⟨[some (.str y),some (.ref lh)],by simp[bX],λh2 x2=>?_⟩) λla hA zs xA bA ez ndz gA oz=>?_
   ·have hc:=cX (m:=mV 1) (n:=lh) (js:=[none]) (tg:=gN 0) (tst:=fK) (elt:=mC (.int 0)) (δ:=[some (.str y),some (.ref lh)]) (h:=h2) (h1:=h2) (ys:=hs) (emb:=PV.str)
     (λ_=>some (.int 0)) (by simp) (x2 _ _ gh1) (by omega) (λz _=>⟨[some (.str z)],by simp[bX],λh' _=>⟨rfl,by simp⟩⟩)
    have em:hs.filterMap (λ_=>some (PV.int 0))=(cj hs.length (0:Int)).map PV.int:=by
     rw[filterMap_some (λ_=>PV.int 0) hs,List.map_const',List.map_replicate]
    rw[em]at hc;exact⟨_,_,hc,Ext.app _ _,ak _,aK⟩
   ·refine⟨la,zs.map λz=>(cj hs.length (0:Int),z.2),rfl,xA,bA,⟨by rw[gA,cu];rfl,λp hp=>?_⟩,λp hp=>?_,by rw[af,<-ez,af],λp hp=>?_⟩
    ·obtain⟨z,hz,rfl⟩:=aq.mp hp;exact(oz z hz).2
    ·obtain⟨z,hz,rfl⟩:=aq.mp hp;have:=(oz z hz).1
     show h1.length<=z.2
     omega
    ·obtain⟨z,hz,rfl⟩:=aq.mp hp;rfl
  obtain⟨p2,h2,e2,la,m,rfl,x2,bla,ma,bm,lm0,zm⟩:=gH w0;simp[e2];have x3:Ext h2 (h2++[MO.lst [PV.ref la]]):=Ext.app _ _;have g3:(h2++[MO.lst [PV.ref la]])[h2.length]?=some (.lst [PV.ref la]):=aK;have lah:la<h2.length:=(ab.mp ma.1).1;have lpm:∀p∈m,p.2<h2.length:=λp hp=>(ab.mp (ma.2 p hp)).1;have l12:=x2.len;generalize h2++[MO.lst [PV.ref la]]=h3 at x3 g3;have l13:=(x2.trans x3).len;generalize elm:h2.length=lm at g3 lah lpm l12;have zr:∀w,(cj hs.length (0:Int)).getD w 0=0:=λw=>by
   by_cases hw:w<hs.length
   ·simp[hw]
   ·simp[hw]
  have zc:∀w,w<hs.length->bR m w=cj hs.length 0:=λw hw=>zm _ (sT (by rw[lm0];exact hw));have vo0:VOk hs [] (cj hs.length 0) (cj hs.length 0):=⟨by simp,λv=>by rw[zr v];exact ff _,λv _=>ff _,λz hz=>by simp at hz⟩;have t0:Hm hs hB lr lm 0 [] (cj hs.length 0) [(m,la)] h3:=by
   refine⟨xr.trans (x2.trans x3),⟨λz hz=>by simp at hz,o6,by simp⟩,by simp,⟨[],(m,la),rfl,λv hv=>by rw[zc v hv]⟩,g3,rfl,⟨(x2.trans x3) _ _ gr,λz hz=>by simp at hz⟩,λz hz=>?_,λz hz=>?_,λz hz=>by simp at hz,λz hz=>?_,λw _ n a b=>(by rw[zr w]at b;omega),jf _ _,by omega,by omega,by omega⟩
   ·simp at hz;subst hz;exact⟨lm0,λp hp=>by rw[zm p hp];exact vo0,λw v hw hv=>by rw[zc w hw,zc v hv];exact ff _⟩
   ·simp at hz;subst hz;exact⟨x3 _ _ ma.1,λp hp=>x3 _ _ (ma.2 p hp)⟩
   ·simp at hz;subst hz;exact⟨⟨by show la≠lr;omega,by show la≠lm;omega⟩,λp hp=>by have:=bm p hp;have:=lpm p hp;exact⟨by omega,by omega⟩⟩
  generalize [(m,la)]=M0 at t0;generalize ([]:List Row)=R0 at t0;generalize cj hs.length (0:Int)=T0 at t0;clear e2 ma zm zc vo0 zr bm lpm w0 gr gh1;refine now ?_;rw[aL];have ec:∃cs:List Int,cs.length<=50/\jW (ns.map PV.int) (some 1) (some 51)=cs.map PV.int:=by
   refine⟨jW ns (some 1) (some 51),?_,by unfold jW;rw[af,<-List.map_drop,<-List.map_take]⟩;unfold jW;rw[eu];have e1:HT.sIx ns.length 0 (some (1:Int))=min 1 ns.length:=rfl;have e2:HT.sIx ns.length ns.length (some (51:Int))=min 51 ns.length:=rfl;rw[e1,e2];omega
  obtain⟨cs,lcs,ecs⟩:=ec;have xs:Ext h3 (h3++[MO.lst (cs.map PV.int)]):=Ext.app _ _;have gs:(h3++[MO.lst (cs.map PV.int)])[h3.length]?=some (.lst (cs.map PV.int)):=aK;have ls1:h3.length≠lr:=by have:=(ab.mp t0.ra.1).1;omega
  have ls2:h3.length≠lm:=by have:=(ab.mp t0.gm).1;omega
  have t1:Hm hs hB lr lm 0 R0 T0 M0 (h3++[MO.lst (cs.map PV.int)]):=⟨t0.x.trans xs,t0.i,t0.lR,t0.ne,xs _ _ t0.gm,t0.lM,t0.ra.ext xs,t0.mo,λz hz=>⟨xs _ _ (t0.ma z hz).1,λp hp=>xs _ _ ((t0.ma z hz).2 p hp)⟩,t0.rN,t0.mN,t0.gf,t0.pw,t0.b⟩;have esl:mSl (mV 0) (mP (mC (.int 1))) (mP (mC (.int 51))) [some (.fl (ns.map PV.int)),some (.int c),some (.ref lh),some (.ref lr),some (.ref lm),none,none,none,none,none,none,none] h3=.ok (.ref h3.length) (h3++[MO.lst (cs.map PV.int)]):=by
   simp[ecs]
  generalize h3++[MO.lst (cs.map PV.int)]=h4 at esl gs t1;generalize h3.length=ls at esl gs ls1 ls2;refine sC (n:=ls) (xs:=cs.map PV.int) (h1:=h4) (λq δ h'=>(∃R T Ms,Hm hs hB lr lm q R T Ms h')/\h'[ls]?=some (.lst (cs.map PV.int))/\∃x5,δ=[some (.fl (ns.map PV.int)),some (.int c),some (.ref lh),some (.ref lr),some (.ref lm),x5,none,none,none,none,none,none]) esl gs ⟨⟨R0,T0,M0,t1⟩,gs,_,rfl⟩ (λq δ h' _ z=>z.2.1) ?_ ?_
  ·rintro q y δ h' hy ⟨⟨R,T,Ms,t⟩,g',x5,rfl⟩;have hq:=(ab.mp hy).1;rw[af]at hq;rw[au]at hy;obtain⟨cc,hc,rfl⟩:=bc.mp hy;exact⟨_,rfl,QI nd h0 h6 t (by omega) gh cc _ _ _ _ _ _ _ _ _ λR' T' Ms' h'' t' kp=>⟨⟨R',T',Ms',t'⟩,kp _ _ ls1 ls2 g',_,rfl⟩⟩
  ·rintro δ h' ⟨⟨R,T,Ms,t⟩,g',x5,rfl⟩;have lR:=t.lR;have lM:=t.lM;rw[af]at lR lM;refine now ?_;rw[aL];have hc:=cX (m:=mV 3) (n:=lr) (js:=[none]) (tg:=gN 0) (tst:=fK) (elt:=aD vAt (mV 0) (mC (.int 0))) (δ:=[some (.fl (ns.map PV.int)),some (.int c),some (.ref lh),some (.ref lr),some (.ref lm),x5,none,none,none,none,none,none]) (h:=h') (h1:=h') (ys:=R) (emb:=rwV)
    (λz=>some (deV z.d)) (by simp) t.ra.1 (by omega) (λz hz=>⟨[some (rwV z)],by simp[bX],λh2 _=>⟨rfl,by simp[Ue]⟩⟩)
   rw[filterMap_some,show(R.map λz=>deV z.d)=(R.map (·.d)).map deV by rw[cu];rfl]at hc;have xd:Ext h' (h'++[MO.lst ((R.map (·.d)).map deV)]):=Ext.app _ _;have gd:(h'++[MO.lst ((R.map (·.d)).map deV)])[h'.length]?=some (.lst ((R.map (·.d)).map deV)):=aK;generalize h'++[MO.lst ((R.map (·.d)).map deV)]=h5 at hc xd gd;generalize h'.length=ld at hc gd;simp[hc];refine now ?_;rw[aL];have gm:=xd _ _ t.gm;have hlv:=gI gm;rw[af]at hlv;obtain⟨a,ea,ha⟩:=QD (c/7) (n:=Ms.length) (by omega);have pos:(0:Int)<(Ms.length:Int):=by omega
   generalize hL:((Ms.length:Nat):Int)=L at hlv pos ea;simp(disch:=omega) [hlv,ea];refine now ?_;rw[aL];obtain⟨b,eb,hb⟩:=QD (c/11) (n:=a+1) (by omega);rw[Int.natCast_add]at eb;have pos2:(0:Int)<(a:Int)+1:=by omega
   have eb:c/11%((a:Int)+1)=(b:Int):=eb;simp(disch:=omega) [eb];refine now ?_;rw[aL];have ghh:=xd _ _ (t.x _ _ gh);have hlh:=gI ghh;rw[af]at hlh;have hbM:b<Ms.length:=by omega
   have lvm:∀v,v<hs.length->Lv hs.length (bR Ms[b].1 v) (bR Ms[a].1 v):=λv hv=>by
    by_cases e:b=a
    ·subst e;exact λ_ _=>ff _
    ·exact f7.mp t.pw b a hbM ha (by omega) v hv
   have mab:=t.ma _ (dr hbM);have maa:=t.ma _ (dr ha);refine LZ (j:=(hs.length:Int)) (λq δ h''=>Ext h5 h''/\∃x9 x10 x11,δ=[some (.fl (ns.map PV.int)),some (.int c),some (.ref lh),some (.ref lr),some (.ref lm),x5,some (.ref ld),some (.int (a:Int)),some (.int (b:Int)),x9,x10,x11]) (by simp[hlh]) (by omega) ⟨Ext.refl _,_,_,_,rfl⟩ ?_ ?_
   ·rintro q δ h'' hq ⟨y1,x9,x10,x11,rfl⟩;have yd:=xd.trans y1;exact QJ nd h0 h6 t.i t.gf (by omega) (t.mo _ (dr hbM)) (t.mo _ (dr ha)) (by omega) (lvm q (by omega)) (y1 _ _ ghh) (y1 _ _ gd) (λh6 x6=>IA ((y1.trans x6) _ _ gm) hbM) (λh6 x6=>IA ((y1.trans x6) _ _ gm) ha) ⟨yd _ _ mab.1,λp hp=>yd _ _ (mab.2 p hp)⟩ ⟨yd _ _ maa.1,λp hp=>yd _ _ (maa.2 p hp)⟩ _ _ _ _ _ _ _ λh7 y10 y11 x7=>⟨y1.trans x7,_,_,_,rfl⟩
   ·rintro δ h'' ⟨y1,x9,x10,x11,rfl⟩;refine now ?_;simp
 obtain⟨p,h,e,rfl⟩:=gH w;exact⟨h,e⟩
end K78
namespace K78
open PySem L2
def top(i:Nat):Stmt:=PySem.Challenge.pw_copymeet_k78_whole_settled_for_good.main.body.getD i (.Pass ⟨0,0,0,0⟩)
abbrev bsL:List Str:=["range","len","sorted","tuple","list","max","sum","min","dict","all","set"]
abbrev cC(w:World)(K:ah)(cl:Str->Option Addr):MC:=⟨K,cl,bsL,λ_ _ _=>False,w⟩
abbrev mO:Stmt:=top 21
theorem iQ:aX ["_law_cell","_law_size","_law_at","_law_found","_law_k","_law_letter"] ["_law_cell"] (aE mO):=⟨rfl,rfl,rfl,by decide +kernel,rfl,by decide +kernel,by decide +kernel⟩
abbrev mR:Stmt:=top 25
theorem Nu:aX ["_law_deeds","_law_hands_here","_law_counts"] ["_law_deeds","_law_hands_here","_law_counts"] (aE mR):=⟨rfl,rfl,rfl,by decide +kernel,rfl,by decide +kernel,by decide +kernel⟩
abbrev xV:List Str:=["_law_deed","_law_counts","_law_hands_here"]
theorem DW:(xV).Nodup:=by decide +kernel
abbrev sU:Stmt:=top 22
theorem QK:aX ["_law_hands_here","_law_counts"] ["_law_hands_here","_law_counts"] (aE sU):=⟨rfl,rfl,rfl,by decide +kernel,rfl,by decide +kernel,by decide +kernel⟩
abbrev AG:List Str:=["_law_k","_law_hands_here","_law_counts"]
theorem FU:(AG).Nodup:=by decide +kernel
abbrev mS:Stmt:=top 20
theorem DX:aX ["_law_cell","_law_k","_law_number"] ["_law_cell","_law_k"] (aE mS):=⟨rfl,rfl,rfl,by decide +kernel,rfl,by decide +kernel,by decide +kernel⟩
abbrev AH:Stmt:=top 23
theorem FV:aX ["_law_way","_law_many","_law_cell","_law_number","_law_first"] ["_law_way","_law_many","_law_cell"] (aE AH):=⟨rfl,rfl,rfl,by decide +kernel,rfl,by decide +kernel,by decide +kernel⟩
abbrev sV:Stmt:=top 24
theorem dW:aX ["_law_rows","_law_all_counts","_law_hands_here","_law_cell","_law_who","_law_counts","_law_way","_law_name","_law_deed","_law_other","_law_far","_law_heard"] ["_law_rows","_law_all_counts","_law_hands_here","_law_cell"] (aE sV):=⟨rfl,rfl,rfl,by decide +kernel,rfl,by decide +kernel,by decide +kernel⟩
abbrev AI:List Str:=["_law_row","_law_hands_here","_law_other"]
theorem FW:(AI).Nodup:=by decide +kernel
abbrev AJ:List Str:=["_law_k","_law_counts","_law_far"]
theorem FX:(AJ).Nodup:=by decide +kernel
abbrev dF:Stmt:=top 13
theorem C3:aX ["deed"] ["deed"] (aE dF):=⟨rfl,rfl,rfl,by decide +kernel,rfl,by decide +kernel,by decide +kernel⟩
abbrev fP:Stmt:=top 14
theorem FY:aX ["hand","deeds"] ["hand","deeds"] (aE fP):=⟨rfl,rfl,rfl,by decide +kernel,rfl,by decide +kernel,by decide +kernel⟩
abbrev qQ:List Str:=["deed","hand"]
theorem zC:(qQ).Nodup:=by decide +kernel
abbrev mT:Stmt:=top 4
theorem Nv:aX ["deed"] ["deed"] (aE mT):=⟨rfl,rfl,rfl,by decide +kernel,rfl,by decide +kernel,by decide +kernel⟩
abbrev xW:List Str:=["pair"]
theorem DY:(xW).Nodup:=by decide +kernel
abbrev mU:Stmt:=top 16
theorem xX:aX ["hands","deeds","settles","lasts"] ["hands","deeds"] (aE mU):=⟨rfl,rfl,rfl,by decide +kernel,rfl,by decide +kernel,by decide +kernel⟩
abbrev xY:List Str:=["deed"]
theorem DZ:(xY).Nodup:=by decide +kernel
abbrev xZ:List Str:=["hand","settles"]
theorem E1:(xZ).Nodup:=by decide +kernel
abbrev yA:List Str:=["deed"]
theorem E2:(yA).Nodup:=by decide +kernel
abbrev iR:Stmt:=top 2
theorem mW:aX ["one","other","numbers","hand","n"] ["one","other"] (aE iR):=⟨rfl,rfl,rfl,by decide +kernel,rfl,by decide +kernel,by decide +kernel⟩
abbrev fR:Stmt:=top 3
theorem FZ:aX ["seen","name"] ["seen","name"] (aE fR):=⟨rfl,rfl,rfl,by decide +kernel,rfl,by decide +kernel,by decide +kernel⟩
abbrev mX:Stmt:=top 15
theorem E3:aX ["hand","deeds","last"] ["hand","deeds"] (aE mX):=⟨rfl,rfl,rfl,by decide +kernel,rfl,by decide +kernel,by decide +kernel⟩
abbrev sW:Stmt:=top 5
theorem C4:aX ["deed","hand","n"] ["deed"] (aE sW):=⟨rfl,rfl,rfl,by decide +kernel,rfl,by decide +kernel,by decide +kernel⟩
abbrev eI:Stmt:=top 6
theorem lJ:aX ["deeds","by_name","deed"] ["deeds"] (aE eI):=⟨rfl,rfl,rfl,by decide +kernel,rfl,by decide +kernel,by decide +kernel⟩
abbrev iS:Stmt:=top 1
theorem sX:aX ["seen","name","hand","n"] ["seen","name"] (aE iS):=⟨rfl,rfl,rfl,by decide +kernel,rfl,by decide +kernel,by decide +kernel⟩
abbrev sY:Stmt:=top 17
theorem vA:aX ["hands","deeds","highest","low","seens"] ["hands","deeds"] (aE sY):=⟨rfl,rfl,rfl,by decide +kernel,rfl,by decide +kernel,by decide +kernel⟩
abbrev AK:List Str:=["deed","highest"]
theorem G0:(AK).Nodup:=by decide +kernel
abbrev AL:List Str:=["hand","deeds"]
theorem G1:(AL).Nodup:=by decide +kernel
abbrev AM:List Str:=["name","seens"]
theorem G2:(AM).Nodup:=by decide +kernel
abbrev AN:List Str:=["seen","name"]
theorem G3:(AN).Nodup:=by decide +kernel
abbrev fT:Stmt:=top 8
theorem G4:aX ["deed"] ["deed"] (aE fT):=⟨rfl,rfl,rfl,by decide +kernel,rfl,by decide +kernel,by decide +kernel⟩
abbrev eJ:Stmt:=top 9
theorem fD:aX ["n","backs","back","word","first","last"] ["n","backs"] (aE eJ):=⟨rfl,rfl,rfl,by decide +kernel,rfl,by decide +kernel,by decide +kernel⟩
abbrev iT:Stmt:=top 10
theorem dH:aX ["deeds","taken","backs","deed","hand","n","word","by"] ["deeds"] (aE iT):=⟨rfl,rfl,rfl,by decide +kernel,rfl,by decide +kernel,by decide +kernel⟩
abbrev eK:Stmt:=top 11
theorem lK:aX ["deeds","ordered","taken"] ["deeds"] (aE eK):=⟨rfl,rfl,rfl,by decide +kernel,rfl,by decide +kernel,by decide +kernel⟩
abbrev nQ:List Str:=["deed","taken"]
theorem yB:(nQ).Nodup:=by decide +kernel
abbrev fU:Stmt:=top 18
theorem yC:aX ["hands","deeds","highest"] ["hands","deeds"] (aE fU):=⟨rfl,rfl,rfl,by decide +kernel,rfl,by decide +kernel,by decide +kernel⟩
abbrev qS:List Str:=["deed","highest"]
theorem zD:(qS).Nodup:=by decide +kernel
abbrev cR:Stmt:=top 26
theorem cI:aX ["_law_names","_law_many","_law_hand","_law_n"] ["_law_names"] (aE cR):=⟨rfl,rfl,rfl,by decide +kernel,rfl,by decide +kernel,by decide +kernel⟩
abbrev sZ:Stmt:=top 27
theorem qT:aX ["_law_hands_here","_law_deeds","_law_longer","_law_top","_law_later","_law_names","_law_after"] ["_law_hands_here","_law_deeds","_law_longer"] (aE sZ):=⟨rfl,rfl,rfl,by decide +kernel,rfl,by decide +kernel,by decide +kernel⟩
abbrev AO:List Str:=["_law_deed","_law_top"]
theorem G5:(AO).Nodup:=by decide +kernel
abbrev AQ:List Str:=["_law_deed","_law_deeds"]
theorem G6:(AQ).Nodup:=by decide +kernel
abbrev AR:List Str:=["_law_deed","_law_top"]
theorem G7:(AR).Nodup:=by decide +kernel
abbrev AS:List Str:=["_law_name","_law_after"]
theorem G8:(AS).Nodup:=by decide +kernel
abbrev qU:Stmt:=top 28
theorem eL:aX ["_law_script","_law_cell","_law_hands_here","_law_rows","_law_moments","_law_number","_law_deeds","_law_late","_law_soon","_law_who","_law_one","_law_two"] ["_law_script"] (aE qU):=⟨rfl,rfl,rfl,by decide +kernel,rfl,by decide +kernel,by decide +kernel⟩
abbrev E4:List Str:=["_law_hand","_law_hands_here"]
theorem JS:(E4).Nodup:=by decide +kernel
abbrev E5:List Str:=["_law_hand"]
theorem JT:(E5).Nodup:=by decide +kernel
abbrev E6:List Str:=["_law_row"]
theorem JU:(E6).Nodup:=by decide +kernel
theorem qV:("range" : Str)∈bsL:=(.head _)
theorem fH:("len" : Str)∈bsL:=(.tail _ (.head _))
theorem mY:("sorted" : Str)∈bsL:=(.tail _ (.tail _ (.head _)))
theorem E7:("tuple" : Str)∈bsL:=(.tail _ (.tail _ (.tail _ (.head _))))
theorem C5:("max" : Str)∈bsL:=(.tail _ (.tail _ (.tail _ (.tail _ (.tail _ (.head _))))))
section
variable{P:Program}{w:World}{K:ah}{mg:Str->Option Value}{base:Heap}{cl:Str->Option Addr}
variable(P w K mg base cl)
abbrev E8:Prop:=∃a fd,Def K mg "_law_hands" mO a fd ["_law_cell"]/\aV P w K mg base CX0 1 a fd ["_law_cell"] (spM (cC w K cl) 1 uX)
abbrev E9:Prop:=∃a fd,Def K mg "_law_taken" mR a fd ["_law_deeds","_law_hands_here","_law_counts"]/\aV P w K mg base CX0 1 a fd ["_law_deeds","_law_hands_here","_law_counts"] (spM (cC w K cl) 3 pY)
abbrev IB:Prop:=∃a fd,Def K mg "_law_seen" sU a fd ["_law_hands_here","_law_counts"]/\aV P w K mg base CX0 1 a fd ["_law_hands_here","_law_counts"] (spM (cC w K cl) 2 xE)
abbrev Ea:Prop:=∃a fd,Def K mg "_law_mixed" mS a fd ["_law_cell","_law_k"]/\aV P w K mg base CX0 1 a fd ["_law_cell","_law_k"] (spM (cC w K cl) 2 pZ)
abbrev Nw:Prop:=∃a fd,Def K mg "_law_act" AH a fd ["_law_way","_law_many","_law_cell"]/\aV P w K mg base CX0 2 a fd ["_law_way","_law_many","_law_cell"] (spM (cC w K cl) 3 DF)
abbrev IC:Prop:=∃a fd,Def K mg "_law_step" sV a fd ["_law_rows","_law_all_counts","_law_hands_here","_law_cell"]/\aV P w K mg base CX0 3 a fd ["_law_rows","_law_all_counts","_law_hands_here","_law_cell"] (spM (cC w K cl) 4 BP)
abbrev qW:Prop:=∃a fd,Def K mg "number_of" dF a fd ["deed"]/\aV P w K mg base CX0 1 a fd ["deed"] (spM (cC w K cl) 1 cQ)
abbrev oM:Prop:=∃a fd,Def K mg "last_of" fP a fd ["hand","deeds"]/\aV P w K mg base CX0 4 a fd ["hand","deeds"] (spM (cC w K cl) 2 iM)
abbrev iU:Prop:=∃a fd,Def K mg "stamp" mT a fd ["deed"]/\aV P w K mg base CX0 1 a fd ["deed"] (spM (cC w K cl) 1 cZ)
abbrev qX:Prop:=∃a fd,Def K mg "bound" mU a fd ["hands","deeds"]/\aV P w K mg base CX0 5 a fd ["hands","deeds"] (spM (cC w K cl) 2 jK)
abbrev AU:Prop:=∃a fd,Def K mg "joined" iR a fd ["one","other"]/\aV P w K mg base CX0 1 a fd ["one","other"] (spM (cC w K cl) 2 qB)
abbrev yD:Prop:=∃a fd,Def K mg "widened" fR a fd ["seen","name"]/\aV P w K mg base CX0 2 a fd ["seen","name"] (spM (cC w K cl) 2 mH)
abbrev Eb:Prop:=∃a fd,Def K mg "known" mX a fd ["hand","deeds"]/\aV P w K mg base CX0 5 a fd ["hand","deeds"] (spM (cC w K cl) 2 uY)
abbrev ID:Prop:=∃a fd,Def K mg "rank" sW a fd ["deed"]/\aV P w K mg base CX0 2 a fd ["deed"] (spM (cC w K cl) 1 BS)
abbrev lN:Prop:=∃a fd,Def K mg "in_order" eI a fd ["deeds"]/\aV P w K mg base CX0 5 a fd ["deeds"] (spM (cC w K cl) 1 dB)
abbrev AV:Prop:=∃a fd,Def K mg "covers" iS a fd ["seen","name"]/\aV P w K mg base CX0 1 a fd ["seen","name"] (spM (cC w K cl) 2 iN)
abbrev IE:Prop:=∃a fd,Def K mg "sunk" sY a fd ["hands","deeds"]/\aV P w K mg base CX0 6 a fd ["hands","deeds"] (spM (cC w K cl) 2 xJ)
abbrev yE:Prop:=∃a fd,Def K mg "name_of" fT a fd ["deed"]/\aV P w K mg base CX0 1 a fd ["deed"] (spM (cC w K cl) 1 iO)
abbrev uF:Prop:=∃a fd,Def K mg "taker_of" eJ a fd ["n","backs"]/\aV P w K mg base CX0 1 a fd ["n","backs"] (spM (cC w K cl) 2 jL)
abbrev AW:Prop:=∃a fd,Def K mg "takers" iT a fd ["deeds"]/\aV P w K mg base CX0 4 a fd ["deeds"] (spM (cC w K cl) 1 qE)
abbrev lO:Prop:=∃a fd,Def K mg "in_force" eK a fd ["deeds"]/\aV P w K mg base CX0 6 a fd ["deeds"] (spM (cC w K cl) 1 dC)
abbrev yF:Prop:=∃a fd,Def K mg "settled" fU a fd ["hands","deeds"]/\aV P w K mg base CX0 7 a fd ["hands","deeds"] (spM (cC w K cl) 2 mI)
abbrev nR:Prop:=∃a fd,Def K mg "_law_first_ones" cR a fd ["_law_names"]/\aV P w K mg base CX0 1 a fd ["_law_names"] (spM (cC w K cl) 1 dS)
abbrev IF:Prop:=∃a fd,Def K mg "_law_held" sZ a fd ["_law_hands_here","_law_deeds","_law_longer"]/\aV P w K mg base CX0 8 a fd ["_law_hands_here","_law_deeds","_law_longer"] (spM (cC w K cl) 3 xN)
variable{P w K mg base cl}
theorem fL{j:Nat}{nm:Str}{st:Stmt}{f:Addr}{fd:c5}{ps:List Str}{sp:Sp}(D:Def K mg nm st f fd ps)(h:Fun K nm nm st f fd->aV P w K mg base CX0 j f fd ps sp):∃a fd,Def K mg nm st a fd ps/\aV P w K mg base CX0 j a fd ps sp:=⟨_,_,D,h D.fn⟩
theorem Ny{f:Addr}{fd:c5}(hbn:∀x∈bsL,mg x=none)(F:Fun K "_law_hands" "_law_hands" mO f fd):aV P w K mg base CX0 1 f fd ["_law_cell"] (spM (cC w K cl) 1 uX):=
 cG (C:=cC w K cl) (k:=0) (N:=["_law_cell","_law_size","_law_at","_law_found","_law_k","_law_letter"]) (body:=BM) (λ_ _ _ h=>h) hbn F iQ λcdv A outer s H E=>
 (aF (bE (i:=1) iQ.nd (aM bY aG (aM dM (aA 0) aG)))
 (aF (bE (i:=2) iQ.nd (aM dM (aM iH (aA 0) aG) (aA 1)))
 (aF (bE (i:=3) iQ.nd (nL aH))
 (aF (nM (Bt (aC (aM bY aG (aM dM (aM iH (aA 0) aG) aG)) aH) (hb:=qV)) (aQ iQ.nd)
  (aF (bE (i:=5) iQ.nd (bN nK (aM dM (aM bY (aM iH (aA 0) aG) (aM Hx (aA 4) (aM bY aG (aM dM (aM iH (aA 0) aG) aG)))) aG)))
  (aJ (HC (LU jg kn ko pK (aA 3) (aC (aM bY (aM bY (aM Sb nK (aA 2)) (aA 5)) (aM Sb nK (aM Hw (aM Hw (aA 1) aG) (aA 2)))) aH))))))
 (aJ (bP (aA 3)))))))
theorem Nz{f:Addr}{fd:c5}(hbn:∀x∈bsL,mg x=none)(F:Fun K "_law_taken" "_law_taken" mR f fd):aV P w K mg base CX0 1 f fd ["_law_deeds","_law_hands_here","_law_counts"] (spM (cC w K cl) 3 pY):=
 cG (C:=cC w K cl) (k:=0) (N:=["_law_deeds","_law_hands_here","_law_counts"]) (body:=BN) (λ_ _ _ h=>h) hbn F Nu λcdv A outer s H E=>
 (aJ (bP (cO (js:=[none,some 2,some 1]) (N:=xV) rfl rfl (by rfl) (bZ (aA 0)) (λ_ _ _ _=>(aQ DW)) (λ_ _ _ _=>(dZ (bV D6 (bN (bN (aA 0) aG) aG) (bN (aA 1) (LU jg PySem.F.slot_list_index PySem.F.type_list_index Qb (aA 2) (aC (bN (bN (aA 0) aG) aG) aH)))))) (λ_ _ _ _=>(aA 0)))))
theorem QL{f:Addr}{fd:c5}(hbn:∀x∈bsL,mg x=none)(F:Fun K "_law_seen" "_law_seen" sU f fd):aV P w K mg base CX0 1 f fd ["_law_hands_here","_law_counts"] (spM (cC w K cl) 2 xE):=
 cG (C:=cC w K cl) (k:=0) (N:=["_law_hands_here","_law_counts"]) (body:=FD) (λ_ _ _ h=>h) hbn F QK λcdv A outer s H E=>
 (aJ (bP (pJ HB PyProof.Rows.Boot.«tuple» (aC (bS Dj PyProof.Rows.Boot.«sorted» (aC (cO (js:=[none,some 0,some 1]) (N:=AG) rfl rfl (by rfl) (Bt (aC (bS kG PyProof.Rows.Boot.«len» (aC (aA 0) aH) (hb:=fH)) aH) (hb:=qV)) (λ_ _ _ _=>(aQ FU)) (λ_ _ _ _=>(dZ (bV LK (bN (aA 2) (aA 0)) aG))) (λ_ _ _ _=>(kF (aC (bN (aA 1) (aA 0)) (aC (bN (aA 2) (aA 0)) aH))))) aH) (hb:=mY)) aH) (hb:=E7))))
theorem NA{f:Addr}{fd:c5}(hbn:∀x∈bsL,mg x=none)(F:Fun K "_law_mixed" "_law_mixed" mS f fd):aV P w K mg base CX0 1 f fd ["_law_cell","_law_k"] (spM (cC w K cl) 2 pZ):=
 cG (C:=cC w K cl) (k:=0) (N:=["_law_cell","_law_k","_law_number"]) (body:=BO) (λ_ _ _ h=>h) hbn F DX λcdv A outer s H E=>
 (aF (nD (SW.t (w_and (bV Bq (aM dM (aA 0) aG) aG) (Fp (bV LK (aA 0) (aM LH aG aG)))))
  (aJ (bP (aM dM (aM iH (aA 0) aG) (aM LH aG aG))))
  dN)
 (aF (bE (i:=2) DX.nd (aM dM (aM Hx (aM bY (aM bY (aA 0) (aM Hx aG (aA 1))) aG) aG) aG))
 (aJ (bP (aM dM (aM Hx (aA 2) (aM bY (aM iH (aA 2) aG) aG)) aG)))))
theorem Uk{f:Addr}{fd:c5}(hbn:∀x∈bsL,mg x=none)(F:Fun K "_law_act" "_law_act" AH f fd)(C6:Ea P w K mg base cl):aV P w K mg base CX0 2 f fd ["_law_way","_law_many","_law_cell"] (spM (cC w K cl) 3 DF):=
 let ⟨_,_,QM,QN⟩:=C6;cG (C:=cC w K cl) (k:=1) (N:=["_law_way","_law_many","_law_cell","_law_number","_law_first"]) (body:=MP) (λ_ _ _ h=>h) hbn F FV λcdv A outer s H E=>
 (aF (bE (i:=3) FV.nd (s_call QM QN (aC (aA 2) (aC aG aH))))
 (aF (nD (bV Bz (aA 0) aG)
  (aJ (bP (kF (aC nK aH))))
  dN)
 (aF (nD (SW.t (w_and (bV Bq (aA 0) aG) (Fp (bV LK (aA 1) aG))))
  (aF (bE (i:=4) FV.nd (aM bY aG (aM dM (aA 3) (aA 1))))
  (aJ (bP (kF (aC nK (aC (aA 4) (aC (aM bY (aA 4) (aM dM (aM iH (aA 3) aG) (aM Hw (aM bY (aA 1) aG) (aA 4)))) aH)))))))
  dN)
 (aJ (bP (kF (aC nK (aC (kF (aC nK (aC aG aH))) (aC (aM dM (aA 2) (aM LH aG aG)) aH)))))))))
theorem QO{f:Addr}{fd:c5}(hbn:∀x∈bsL,mg x=none)(F:Fun K "_law_step" "_law_step" sV f fd)(G9:IB P w K mg base cl)(NB:Nw P w K mg base cl):aV P w K mg base CX0 3 f fd ["_law_rows","_law_all_counts","_law_hands_here","_law_cell"] (spM (cC w K cl) 4 BP):=
 let ⟨_,_,Ul,Um⟩:=G9;let ⟨_,_,WI,WJ⟩:=NB;cG (C:=cC w K cl) (k:=2) (N:=["_law_rows","_law_all_counts","_law_hands_here","_law_cell","_law_who","_law_counts","_law_way","_law_name","_law_deed","_law_other","_law_far","_law_heard"]) (body:=FF) (λ_ _ _ h=>h) hbn F dW λcdv A outer s H E=>
 (aF (bE (i:=4) dW.nd (aM dM (aA 3) (bS kG PyProof.Rows.Boot.«len» (aC (aA 2) aH) (hb:=fH))))
 (aF (bE (i:=5) dW.nd (pJ Tx PyProof.Rows.Boot.«list» (aC (bN (aA 1) (aA 4)) aH) (hb:=(.tail _ (.tail _ (.tail _ (.tail _ (.head _))))))))
 (aF (bE (i:=6) dW.nd (aM dM (aM iH (aA 3) (bS kG PyProof.Rows.Boot.«len» (aC (aA 2) aH) (hb:=fH))) aG))
 (aF (nD (bV Bz (aA 6) aG)
  (aF (bE (i:=7) dW.nd (kF (aC (bN (aA 2) (aA 4)) (aC (aM bY (bN (aA 5) (aA 4)) aG) aH))))
  (aF (bE (i:=8) dW.nd (kF (aC (aA 7) (aC (s_call Ul Um (aC (aA 2) (aC (aA 5) aH))) (aC (s_call WI WJ (aC (aA 6) (aC (bN (aA 5) (aA 4)) (aC (aM iH (aA 3) aG) aH)))) aH)))))
  (aF (sJ (aM bY (bN (aA 5) (aA 4)) aG) (aA 5) (aA 4))
  (aJ (HC (LU jg kn ko pK (aA 0) (aC (kF (aC (aA 8) (aC (aA 5) aH))) aH)))))))
  (aF (bE (i:=9) dW.nd (aM dM (aM bY (aM bY (aA 4) aG) (aM dM (aM iH (aA 3) aG) (bS Fy PyProof.Rows.Boot.«max» (aC aG (aC (aM Hw (bS kG PyProof.Rows.Boot.«len» (aC (aA 2) aH) (hb:=fH)) aG) aH)) (hb:=C5)))) (bS kG PyProof.Rows.Boot.«len» (aC (aA 2) aH) (hb:=fH))))
  (aF (bE (i:=10) dW.nd (bN (aA 1) (aA 9)))
  (aF (iJ (i:=11) dW.nd rfl rfl (js:=[none,some 2,some 9]) (N:=AI) rfl rfl (by rfl) (bZ (aA 0)) (λ_ _ _ _=>(aQ FW)) (λ_ _ _ _=>(dZ (bV Bq (bN (bN (bN (aA 0) aG) aG) aG) (bN (aA 1) (aA 2))))) (λ_ _ _ _=>(aA 0)))
  (aF (nD (SW.t (w_and (bV Bz (aA 6) aG) (Fp (bV U1 (aA 11) (nL aH)))))
   (aJ (bE (i:=10) dW.nd (bN (bN (aA 11) (aM dM (aM iH (aA 3) aG) (bS kG PyProof.Rows.Boot.«len» (aC (aA 11) aH) (hb:=fH)))) aG)))
   dN)
  (aJ (bE (i:=5) dW.nd (cO (js:=[none,some 5,some 10]) (N:=AJ) rfl rfl (by rfl) (Bt (aC (bS kG PyProof.Rows.Boot.«len» (aC (aA 2) aH) (hb:=fH)) aH) (hb:=qV)) (λ_ _ _ _=>(aQ FX)) (λ_ _ _ _=>jD) (λ_ _ _ _=>(bS Fy PyProof.Rows.Boot.«max» (aC (bN (aA 1) (aA 0)) (aC (bN (aA 2) (aA 0)) aH)) (hb:=C5)))))))))))
 (aJ (bP (aM bY (aM bY (Tw (aA 1) LQ (Bs (aA 4))) (nL (aC (aA 5) aH))) (Tw (aA 1) (Bs (aM bY (aA 4) aG)) LQ))))))))
theorem C7{f:Addr}{fd:c5}(hbn:∀x∈bsL,mg x=none)(F:Fun K "number_of" "number_of" dF f fd):aV P w K mg base CX0 1 f fd ["deed"] (spM (cC w K cl) 1 cQ):=
 cG (C:=cC w K cl) (k:=0) (N:=["deed"]) (body:=kW) (λ_ _ _ h=>h) hbn F C3 λcdv A outer s H E=>
 (aJ (bP (bN (bN (aA 0) aG) aG)))
theorem Ga{f:Addr}{fd:c5}(hbn:∀x∈bsL,mg x=none)(F:Fun K "last_of" "last_of" fP f fd)(lU:qW P w K mg base cl):aV P w K mg base CX0 4 f fd ["hand","deeds"] (spM (cC w K cl) 2 iM):=
 let ⟨_,_,Ec,Ed⟩:=lU;cG (C:=cC w K cl) (k:=3) (N:=["hand","deeds"]) (body:=sM) (λ_ _ _ h=>h) hbn F FY λcdv A outer s H E=>
 (aJ (bP (U2 Ec Ed (cO (js:=[none,some 0]) (N:=qQ) rfl rfl (by rfl) (bZ (aA 1)) (λ_ _ _ _=>(aQ zC)) (λ_ _ _ _=>(dZ (bV Bq (bN (bN (aA 0) aG) aG) (aA 1)))) (λ_ _ _ _=>(aA 0))) (hb:=C5))))
theorem NC{f:Addr}{fd:c5}(hbn:∀x∈bsL,mg x=none)(F:Fun K "stamp" "stamp" mT f fd):aV P w K mg base CX0 1 f fd ["deed"] (spM (cC w K cl) 1 cZ):=
 cG (C:=cC w K cl) (k:=0) (N:=["deed"]) (body:=qA) (λ_ _ _ h=>h) hbn F Nv λcdv A outer s H E=>
 (aJ (bP (aM bY aG (bS Wc PyProof.Rows.Boot.«sum» (aC (cO (js:=[none]) (N:=xW) rfl rfl (by rfl) (bZ (bN (aA 0) aG)) (λ_ _ _ _=>(aQ DY)) (λ_ _ _ _=>jD) (λ_ _ _ _=>(bN (aA 0) aG))) aH) (hb:=(.tail _ (.tail _ (.tail _ (.tail _ (.tail _ (.tail _ (.head _))))))))))))
theorem ND{f:Addr}{fd:c5}(hbn:∀x∈bsL,mg x=none)(F:Fun K "bound" "bound" mU f fd)(fV:oM P w K mg base cl)(cF:iU P w K mg base cl):aV P w K mg base CX0 5 f fd ["hands","deeds"] (spM (cC w K cl) 2 jK):=
 let ⟨_,_,tB,tE⟩:=fV;let ⟨_,_,eU,eV⟩:=cF;cG (C:=cC w K cl) (k:=4) (N:=["hands","deeds","settles","lasts"]) (body:=BQ) (λ_ _ _ h=>h) hbn F xX λcdv A outer s H E=>
 (aF (bE (i:=2) xX.nd (cO (js:=[none]) (N:=xY) rfl rfl (by rfl) (bZ (aA 1)) (λ_ _ _ _=>(aQ DZ)) (λ_ _ _ _=>(dZ (bV Bq (bN (bN (aA 0) aG) aG) nK))) (λ_ _ _ _=>(aA 0))))
 (aF (iJ (i:=3) xX.nd rfl rfl (js:=[none,some 2]) (N:=xZ) rfl rfl (by rfl) (bZ (aA 0)) (λ_ _ _ _=>(aQ E1)) (λ_ _ _ _=>jD) (λ_ _ _ _=>(s_call tB tE (aC (aA 0) (aC (aA 1) aH)))))
 (aJ (bP (bS TU PyProof.Rows.Boot.«min» (aC (cO (js:=[none]) (N:=yA) rfl rfl (by rfl) (bZ (aA 3)) (λ_ _ _ _=>(aQ E2)) (λ_ _ _ _=>jD) (λ_ _ _ _=>(HA (bV VJ (aA 0) Ht) aG (s_call eU eV (aC (aA 0) aH))))) aH) (hb:=(.tail _ (.tail _ (.tail _ (.tail _ (.tail _ (.tail _ (.tail _ (.head _))))))))))))))
theorem JV{f:Addr}{fd:c5}(hbn:∀x∈bsL,mg x=none)(F:Fun K "joined" "joined" iR f fd):aV P w K mg base CX0 1 f fd ["one","other"] (spM (cC w K cl) 2 qB):=
 cG (C:=cC w K cl) (k:=0) (N:=["one","other","numbers","hand","n"]) (body:=xG) (λ_ _ _ h=>h) hbn F mW λcdv A outer s H E=>
 (aF (bE (i:=2) mW.nd (pJ Q8 PyProof.Rows.Boot.«dict» (aC (aA 0) aH) (hb:=(.tail _ (.tail _ (.tail _ (.tail _ (.tail _ (.tail _ (.tail _ (.tail _ (.head _))))))))))))
 (aF (nM (bZ (aA 1)) (vZ (dA (aQ mW.nd) (dA (aQ mW.nd) vY)))
  (aJ (sJ (bS Fy PyProof.Rows.Boot.«max» (aC (aA 4) (aC (PU ig d6 PySem.F.type_dict_get Mj (aA 2) (aC (aA 3) (aC (aA 4) aH))) aH)) (hb:=C5)) (aA 2) (aA 3))))
 (aJ (bP (pJ HB PyProof.Rows.Boot.«tuple» (aC (bS Dj PyProof.Rows.Boot.«sorted» (aC (Sd ig PySem.F.slot_dict_items PySem.F.type_dict_items PZ (aA 2)) aH) (hb:=mY)) aH) (hb:=E7))))))
theorem Gb{f:Addr}{fd:c5}(hbn:∀x∈bsL,mg x=none)(F:Fun K "widened" "widened" fR f fd)(yG:AU P w K mg base cl):aV P w K mg base CX0 2 f fd ["seen","name"] (spM (cC w K cl) 2 mH):=
 let ⟨_,_,NF,NG⟩:=yG;cG (C:=cC w K cl) (k:=1) (N:=["seen","name"]) (body:=sN) (λ_ _ _ h=>h) hbn F FZ λcdv A outer s H E=>
 (aJ (bP (s_call NF NG (aC (aA 0) (aC (kF (aC (aA 1) aH)) aH)))))
theorem NH{f:Addr}{fd:c5}(hbn:∀x∈bsL,mg x=none)(F:Fun K "known" "known" mX f fd)(fV:oM P w K mg base cl)(tF:yD P w K mg base cl):aV P w K mg base CX0 5 f fd ["hand","deeds"] (spM (cC w K cl) 2 uY):=
 let ⟨_,_,tB,tE⟩:=fV;let ⟨_,_,JW,JX⟩:=tF;cG (C:=cC w K cl) (k:=4) (N:=["hand","deeds","last"]) (body:=BR) (λ_ _ _ h=>h) hbn F E3 λcdv A outer s H E=>
 (aF (bE (i:=2) E3.nd (s_call tB tE (aC (aA 0) (aC (aA 1) aH))))
 (aJ (bP (HA (bV VJ (aA 2) Ht) (kF aH) (s_call JW JX (aC (bN (aA 2) aG) (aC (bN (aA 2) aG) aH)))))))
theorem QP{f:Addr}{fd:c5}(hbn:∀x∈bsL,mg x=none)(F:Fun K "rank" "rank" sW f fd)(cF:iU P w K mg base cl):aV P w K mg base CX0 2 f fd ["deed"] (spM (cC w K cl) 1 BS):=
 let ⟨_,_,eU,eV⟩:=cF;cG (C:=cC w K cl) (k:=1) (N:=["deed","hand","n"]) (body:=FG) (λ_ _ _ h=>h) hbn F C4 λcdv A outer s H E=>
 (aF (LR (bN (aA 0) aG) (vZ (dA (aQ C4.nd) (dA (aQ C4.nd) vY))))
 (aJ (bP (kF (aC (s_call eU eV (aC (aA 0) aH)) (aC (aA 1) (aC (aA 2) aH)))))))
theorem Ee{f:Addr}{fd:c5}(hbn:∀x∈bsL,mg x=none)(F:Fun K "in_order" "in_order" eI f fd)(Gc:ID P w K mg base cl):aV P w K mg base CX0 5 f fd ["deeds"] (spM (cC w K cl) 1 dB):=
 let ⟨_,_,Uo,Up⟩:=Gc;cG (C:=cC w K cl) (k:=4) (N:=["deeds","by_name","deed"]) (body:=oG) (λ_ _ _ h=>h) hbn F lJ λcdv A outer s H E=>
 (aF (bE (i:=1) lJ.nd uU)
 (aF (nM (bZ (aA 0)) (aQ lJ.nd)
  (aJ (sJ (aA 2) (aA 1) (bN (aA 2) aG))))
 (aJ (bP (Q4 Uo Up (Sd ig PySem.F.slot_dict_values PySem.F.type_dict_values m_values (aA 1)) (hb:=mY))))))
theorem JY{f:Addr}{fd:c5}(hbn:∀x∈bsL,mg x=none)(F:Fun K "covers" "covers" iS f fd):aV P w K mg base CX0 1 f fd ["seen","name"] (spM (cC w K cl) 2 iN):=
 cG (C:=cC w K cl) (k:=0) (N:=["seen","name","hand","n"]) (body:=xI) (λ_ _ _ h=>h) hbn F sX λcdv A outer s H E=>
 (aF (nM (bZ (aA 0)) (vZ (dA (aQ sX.nd) (dA (aQ sX.nd) vY)))
  (aJ (nD (bV Bq (aA 2) (bN (aA 1) aG))
   (aJ (bP (S5 D6 (bN (aA 1) aG) (aA 3))))
   dN)))
 (aJ (bP Fj)))
theorem QQ{f:Addr}{fd:c5}(hbn:∀x∈bsL,mg x=none)(F:Fun K "sunk" "sunk" sY f fd)(cF:iU P w K mg base cl)(fM:qX P w K mg base cl)(C8:Eb P w K mg base cl)(eO:lN P w K mg base cl)(yH:AV P w K mg base cl):aV P w K mg base CX0 6 f fd ["hands","deeds"] (spM (cC w K cl) 2 xJ):=
 let ⟨_,_,eU,eV⟩:=cF;let ⟨_,_,mZ,nA⟩:=fM;let ⟨_,_,QR,QS⟩:=C8;let ⟨_,_,oO,oP⟩:=eO;let ⟨_,_,NI,NJ⟩:=yH;cG (C:=cC w K cl) (k:=5) (N:=["hands","deeds","highest","low","seens"]) (body:=FH) (λ_ _ _ h=>h) hbn F vA λcdv A outer s H E=>
 (aF (bE (i:=2) vA.nd (s_call mZ nA (aC (aA 0) (aC (aA 1) aH))))
 (aF (iJ (i:=3) vA.nd rfl rfl (js:=[none,some 2]) (N:=AK) rfl rfl (by rfl) (bZ (s_call oO oP (aC (aA 1) aH))) (λ_ _ _ _=>(aQ G0)) (λ_ _ _ _=>(dZ (bV D6 (s_call eU eV (aC (aA 0) aH)) (aA 1)))) (λ_ _ _ _=>(bN (aA 0) aG)))
 (aF (bE (i:=4) vA.nd (cO (js:=[none,some 1]) (N:=AL) rfl rfl (by rfl) (bZ (aA 0)) (λ_ _ _ _=>(aQ G1)) (λ_ _ _ _=>jD) (λ_ _ _ _=>(s_call QR QS (aC (aA 0) (aC (aA 1) aH))))))
 (aJ (bP (cO (js:=[none,some 4]) (N:=AM) rfl rfl (by rfl) (bZ (aA 3)) (λ_ _ _ _=>(aQ G2)) (λ_ _ _ _=>(dZ (LL (bS Wd PyProof.Rows.Boot.«all» (aC (cO (js:=[none,some 0]) (N:=AN) rfl rfl (by rfl) (bZ (aA 1)) (λ_ _ _ _=>(aQ G3)) (λ_ _ _ _=>jD) (λ_ _ _ _=>(s_call NI NJ (aC (aA 0) (aC (aA 1) aH))))) aH) (hb:=(.tail _ (.tail _ (.tail _ (.tail _ (.tail _ (.tail _ (.tail _ (.tail _ (.tail _ (.head _))))))))))))))) (λ_ _ _ _=>(aA 0))))))))
theorem Gd{f:Addr}{fd:c5}(hbn:∀x∈bsL,mg x=none)(F:Fun K "name_of" "name_of" fT f fd):aV P w K mg base CX0 1 f fd ["deed"] (spM (cC w K cl) 1 iO):=
 cG (C:=cC w K cl) (k:=0) (N:=["deed"]) (body:=sO) (λ_ _ _ h=>h) hbn F G4 λcdv A outer s H E=>
 (aJ (bP (bN (aA 0) aG)))
theorem Ef{f:Addr}{fd:c5}(hbn:∀x∈bsL,mg x=none)(F:Fun K "taker_of" "taker_of" eJ f fd):aV P w K mg base CX0 1 f fd ["n","backs"] (spM (cC w K cl) 2 jL):=
 cG (C:=cC w K cl) (k:=0) (N:=["n","backs","back","word","first","last"]) (body:=oH) (λ_ _ _ h=>h) hbn F fD λcdv A outer s H E=>
 (aF (nM (bZ (aA 1)) (aQ fD.nd)
  (aF (LR (bN (aA 2) aG) (vZ (dA (aQ fD.nd) (dA (aQ fD.nd) (dA (aQ fD.nd) vY)))))
  (aJ (nD (VL D6 D6 (aA 4) (aA 0) (aA 5))
   (aJ (bP (bN (aA 2) aG)))
   dN))))
 (aJ (bP Ht)))
theorem JZ{f:Addr}{fd:c5}(hbn:∀x∈bsL,mg x=none)(F:Fun K "takers" "takers" iT f fd)(tG:yE P w K mg base cl)(oQ:uF P w K mg base cl):aV P w K mg base CX0 4 f fd ["deeds"] (spM (cC w K cl) 1 qE):=
 let ⟨_,_,K0,K1⟩:=tG;let ⟨_,_,Ge,Gg⟩:=oQ;cG (C:=cC w K cl) (k:=3) (N:=["deeds","taken","backs","deed","hand","n","word","by"]) (body:=xM) (λ_ _ _ h=>h) hbn F dH λcdv A outer s H E=>
 (aF (bE (i:=1) dH.nd uU)
 (aF (bE (i:=2) dH.nd uU)
 (aF (nM (bZ (Mu K0 K1 (aA 0) (hb:=mY))) (aQ dH.nd)
  (aF (LR (bN (aA 3) aG) (vZ (dA (aQ dH.nd) (dA (aQ dH.nd) vY))))
  (aF (bE (i:=6) dH.nd (bN (bN (aA 3) aG) aG))
  (aF (nD (bV Bq (aA 6) nK)
   (aF (sJ (nL aH) (aA 2) (aA 4))
   (aJ VS))
   dN)
  (aF (bE (i:=7) dH.nd (s_call Ge Gg (aC (aA 5) (aC (PU ig d6 PySem.F.type_dict_get Mj (aA 2) (aC (aA 4) (aC (nL aH) aH))) aH))))
  (aJ (nD (bV Pw (aA 7) Ht)
   (aJ (sJ (aA 7) (aA 1) (bN (aA 3) aG)))
   (aJ (nD (bV Bq (aA 6) nK)
    (aJ (HC (LU jg kn ko pK (PU ig mq PySem.F.type_dict_setdefault BE (aA 2) (aC (aA 4) (aC (nL aH) aH))) (aC (aA 3) aH))))
    dN)))))))))
 (aJ (bP (aA 1))))))
theorem Eg{f:Addr}{fd:c5}(hbn:∀x∈bsL,mg x=none)(F:Fun K "in_force" "in_force" eK f fd)(eO:lN P w K mg base cl)(yI:AW P w K mg base cl):aV P w K mg base CX0 6 f fd ["deeds"] (spM (cC w K cl) 1 dC):=
 let ⟨_,_,oO,oP⟩:=eO;let ⟨_,_,NK,NL⟩:=yI;cG (C:=cC w K cl) (k:=5) (N:=["deeds","ordered","taken"]) (body:=oI) (λ_ _ _ h=>h) hbn F lK λcdv A outer s H E=>
 (aF (bE (i:=1) lK.nd (s_call oO oP (aC (aA 0) aH)))
 (aF (bE (i:=2) lK.nd (s_call NK NL (aC (aA 1) aH)))
 (aJ (bP (cO (js:=[none,some 2]) (N:=nQ) rfl rfl (by rfl) (bZ (aA 1)) (λ_ _ _ _=>(aQ yB)) (λ_ _ _ _=>(dZ (bV wI (bN (aA 0) aG) (aA 1)))) (λ_ _ _ _=>(aA 0)))))))
theorem Gh{f:Addr}{fd:c5}(hbn:∀x∈bsL,mg x=none)(F:Fun K "settled" "settled" fU f fd)(cF:iU P w K mg base cl)(fM:qX P w K mg base cl)(eP:lO P w K mg base cl):aV P w K mg base CX0 7 f fd ["hands","deeds"] (spM (cC w K cl) 2 mI):=
 let ⟨_,_,eU,eV⟩:=cF;let ⟨_,_,mZ,nA⟩:=fM;let ⟨_,_,oR,oT⟩:=eP;cG (C:=cC w K cl) (k:=6) (N:=["hands","deeds","highest"]) (body:=sP) (λ_ _ _ h=>h) hbn F yC λcdv A outer s H E=>
 (aF (bE (i:=2) yC.nd (s_call mZ nA (aC (aA 0) (aC (aA 1) aH))))
 (aJ (bP (cO (js:=[none,some 2]) (N:=qS) rfl rfl (by rfl) (bZ (s_call oR oT (aC (aA 1) aH))) (λ_ _ _ _=>(aQ zD)) (λ_ _ _ _=>(dZ (bV D6 (s_call eU eV (aC (aA 0) aH)) (aA 1)))) (λ_ _ _ _=>(aA 0))))))
theorem zE{f:Addr}{fd:c5}(hbn:∀x∈bsL,mg x=none)(F:Fun K "_law_first_ones" "_law_first_ones" cR f fd):aV P w K mg base CX0 1 f fd ["_law_names"] (spM (cC w K cl) 1 dS):=
 cG (C:=cC w K cl) (k:=0) (N:=["_law_names","_law_many","_law_hand","_law_n"]) (body:=jM) (λ_ _ _ h=>h) hbn F cI λcdv A outer s H E=>
 (aF (bE (i:=1) cI.nd uU)
 (aF (nM (bZ (aA 0)) (vZ (dA (aQ cI.nd) (dA (aQ cI.nd) vY)))
  (aJ (sJ (aM bY (PU ig d6 PySem.F.type_dict_get Mj (aA 1) (aC (aA 2) (aC aG aH))) aG) (aA 1) (aA 2))))
 (aF (nM (bZ (aA 0)) (vZ (dA (aQ cI.nd) (dA (aQ cI.nd) vY)))
  (aJ (nD (bV LK (aA 3) (bN (aA 1) (aA 2)))
   (aJ (bP Fj))
   dN)))
 (aJ (bP (S5 Bq (MN (aA 0) fH (.tail _ (.tail _ (.tail _ (.tail _ (.tail _ (.tail _ (.tail _ (.tail _ (.tail _ (.tail _ (.head _)))))))))))) (bS kG PyProof.Rows.Boot.«len» (aC (aA 0) aH) (hb:=fH))))))))
theorem QT{f:Addr}{fd:c5}(hbn:∀x∈bsL,mg x=none)(F:Fun K "_law_held" "_law_held" sZ f fd)(cF:iU P w K mg base cl)(fM:qX P w K mg base cl)(Gi:IE P w K mg base cl)(eP:lO P w K mg base cl)(tH:yF P w K mg base cl)(jQ:nR P w K mg base cl):aV P w K mg base CX0 8 f fd ["_law_hands_here","_law_deeds","_law_longer"] (spM (cC w K cl) 3 xN):=
 let ⟨_,_,eU,eV⟩:=cF;let ⟨_,_,mZ,nA⟩:=fM;let ⟨_,_,NM,NN⟩:=Gi;let ⟨_,_,oR,oT⟩:=eP;let ⟨_,_,K2,K3⟩:=tH;let ⟨_,_,qY,qZ⟩:=jQ;cG (C:=cC w K cl) (k:=7) (N:=["_law_hands_here","_law_deeds","_law_longer","_law_top","_law_later","_law_names","_law_after"]) (body:=FI) (λ_ _ _ h=>h) hbn F qT λcdv A outer s H E=>
 (aF (bE (i:=3) qT.nd (s_call mZ nA (aC (aA 0) (aC (aA 1) aH))))
 (aF (iJ (i:=4) qT.nd rfl rfl (js:=[none,some 3]) (N:=AO) rfl rfl (by rfl) (bZ (aA 2)) (λ_ _ _ _=>(aQ G5)) (λ_ _ _ _=>(dZ (bV D6 (s_call eU eV (aC (aA 0) aH)) (aA 1)))) (λ_ _ _ _=>(aA 0)))
 (aF (nD (bV Pu (cO (js:=[none,some 1]) (N:=AQ) rfl rfl (by rfl) (bZ (aA 4)) (λ_ _ _ _=>(aQ G6)) (λ_ _ _ _=>(dZ (bV wI (aA 0) (aA 1)))) (λ_ _ _ _=>(aA 0))) (nL aH))
  (aJ (bP Fj))
  dN)
 (aF (nD (bV Pu (s_call K2 K3 (aC (aA 0) (aC (aA 1) aH))) (cO (js:=[none,some 3]) (N:=AR) rfl rfl (by rfl) (bZ (s_call oR oT (aC (aA 2) aH))) (λ_ _ _ _=>(aQ G7)) (λ_ _ _ _=>(dZ (bV D6 (s_call eU eV (aC (aA 0) aH)) (aA 1)))) (λ_ _ _ _=>(aA 0))))
  (aJ (bP Fj))
  dN)
 (aF (bE (i:=5) qT.nd (s_call NM NN (aC (aA 0) (aC (aA 1) aH))))
 (aF (bE (i:=6) qT.nd (s_call NM NN (aC (aA 0) (aC (aA 2) aH))))
 (aF (nD (SW.t (w_or (bV Bz (s_call mZ nA (aC (aA 0) (aC (aA 2) aH))) (aA 3)) (S8 (bV Pu (cO (js:=[none,some 6]) (N:=AS) rfl rfl (by rfl) (bZ (aA 5)) (λ_ _ _ _=>(aQ G8)) (λ_ _ _ _=>(dZ (bV wI (aA 0) (aA 1)))) (λ_ _ _ _=>(aA 0))) (nL aH)))))
  (aJ (bP Fj))
  dN)
 (aJ (bP (VN (s_call qY qZ (aC (aA 5) aH)) (VM (s_call qY qZ (aC (aA 6) aH)))))))))))))
theorem Uq{f:Addr}{fd:c5}(hbn:∀x∈bsL,mg x=none)(F:Fun K "law" "law" qU f fd)(C9:E8 P w K mg base cl)(Ca:E9 P w K mg base cl)(Gj:IC P w K mg base cl)(Gk:IF P w K mg base cl):aV P w K mg base CX0 9 f fd ["_law_script"] (spM (cC w K cl) 1 MR):=
 let ⟨_,_,QU,QV⟩:=C9;let ⟨_,_,IG,IH⟩:=Ca;let ⟨_,_,Ur,Us⟩:=Gj;let ⟨_,_,NO,NP⟩:=Gk;cG (C:=cC w K cl) (k:=8) (N:=["_law_script","_law_cell","_law_hands_here","_law_rows","_law_moments","_law_number","_law_deeds","_law_late","_law_soon","_law_who","_law_one","_law_two"]) (body:=MQ) (λ_ _ _ h=>h) hbn F eL λcdv A outer s H E=>
 (aF (bE (i:=1) eL.nd aG)
 (aF (nD (bV LK (bS kG PyProof.Rows.Boot.«len» (aC (aA 0) aH) (hb:=fH)) aG)
  (aJ (bE (i:=1) eL.nd (bN (aA 0) aG)))
  dN)
 (aF (bE (i:=2) eL.nd (s_call QU QV (aC (aA 1) aH)))
 (aF (bE (i:=3) eL.nd (nL aH))
 (aF (bE (i:=4) eL.nd (nL (aC (cO (js:=[none,some 2]) (N:=E4) rfl rfl (by rfl) (bZ (aA 2)) (λ_ _ _ _=>(aQ JS)) (λ_ _ _ _=>jD) (λ_ _ _ _=>(cO (js:=[none]) (N:=E5) rfl rfl (by rfl) (bZ (aA 1)) (λ_ _ _ _=>(aQ JT)) (λ_ _ _ _=>jD) (λ_ _ _ _=>aG)))) aH)))
 (aF (nM (bZ (Tw (aA 0) (Bs aG) (Bs aG))) (aQ eL.nd)
  (aJ (HC (LU jg kn ko pK (aA 4) (aC (s_call Ur Us (aC (aA 3) (aC (bN (aA 4) (VH Sa aG)) (aC (aA 2) (aC (aA 5) aH))))) aH)))))
 (aF (iJ (i:=6) eL.nd rfl rfl (js:=[none]) (N:=E6) rfl rfl (by rfl) (bZ (aA 3)) (λ_ _ _ _=>(aQ JU)) (λ_ _ _ _=>jD) (λ_ _ _ _=>(bN (aA 0) aG)))
 (aF (bE (i:=7) eL.nd (aM dM (aM iH (aA 1) aG) (bS kG PyProof.Rows.Boot.«len» (aC (aA 4) aH) (hb:=fH))))
 (aF (bE (i:=8) eL.nd (aM dM (aM iH (aA 1) aG) (aM bY (aA 7) aG)))
 (aF (nM (Bt (aC (bS kG PyProof.Rows.Boot.«len» (aC (aA 2) aH) (hb:=fH)) aH) (hb:=qV)) (aQ eL.nd)
  (aF (bE (i:=10) eL.nd (s_call IG IH (aC (aA 6) (aC (aA 2) (aC (bN (bN (aA 4) (aA 8)) (aA 9)) aH)))))
  (aF (bE (i:=11) eL.nd (Q7 (s_call IG IH (aC (aA 6) (aC (aA 2) (aC (bN (bN (aA 4) (aA 7)) (aA 9)) aH)))) (VH Sa aG)))
  (aJ (nD (SW.t (w_or (S7 (LL (s_call NO NP (aC (aA 2) (aC (aA 10) (aC (aA 11) aH)))))) (S8 (S7 (LL (s_call NO NP (aC (aA 2) (aC (aA 11) (aC (aA 6) aH)))))))))
   (aJ (bP Fj))
   dN)))))
 (aJ (bP Fj))))))))))))
end
def spL(K:ah):Sp:=λvs H Q _=>∃(a:Addr)(ns:List Int),vs=[.ref a]/\Lg H/\SqL K H a (ns.map V.int)/\ns.length<=63/\∀H',Q (.bl true) H'
@[elab_as_elim]theorem Cb{P:List Value->Prop}(us:List Value)(hl:us.length=1)(h:∀a0,P [a0]):P us:=by
 cases us with
 |nil=>cases hl
 |cons a0 us=>
  cases us with
  |nil=>exact h a0
  |cons b us=>
   simp only[dg]at hl;omega
@[elab_as_elim]theorem yJ{P:List Value->Prop}(us:List Value)(hl:us.length=2)(h:∀a0 a1,P [a0,a1]):P us:=by
 cases us with
 |nil=>cases hl
 |cons a0 us=>
  cases us with
  |nil=>cases hl
  |cons a1 us=>
   cases us with
   |nil=>exact h a0 a1
   |cons b us=>
    simp only[dg]at hl;omega
@[elab_as_elim]theorem Ut{P:List Value->Prop}(us:List Value)(hl:us.length=3)(h:∀a0 a1 a2,P [a0,a1,a2]):P us:=by
 cases us with
 |nil=>cases hl
 |cons a0 us=>
  cases us with
  |nil=>cases hl
  |cons a1 us=>
   cases us with
   |nil=>cases hl
   |cons a2 us=>
    cases us with
    |nil=>exact h a0 a1 a2
    |cons b us=>
     simp only[dg]at hl;omega
@[elab_as_elim]theorem Yb{P:List Value->Prop}(us:List Value)(hl:us.length=4)(h:∀a0 a1 a2 a3,P [a0,a1,a2,a3]):P us:=by
 cases us with
 |nil=>cases hl
 |cons a0 us=>
  cases us with
  |nil=>cases hl
  |cons a1 us=>
   cases us with
   |nil=>cases hl
   |cons a2 us=>
    cases us with
    |nil=>cases hl
    |cons a3 us=>
     cases us with
     |nil=>exact h a0 a1 a2 a3
     |cons b us=>
      simp only[dg]at hl;omega
theorem all_mk{l:PySem.W.OpenLaw}{w:World}{K:ah}{h:Heap}{mg:Str->Option Value}{fa Cc Cd Gm Ce NQ Gn lV tI Cf Cg yK tJ Ci Gp oU yL Gq tK oV yM oW tL jR Gr NR:Addr}(X:K.In h)(G:h.Ns cg mg)(hfa:mg "law" = some (.ref fa))(hbn:∀x∈bsL,mg x=none)
  (QW:de K cg "_law_hands" = some (some (.ref Cc)))
  {NS NT K4 NU AX NV:Value} {NW NX:Option Addr} {K5:Array (Option Value)}
  (QX:K.lookup Cc=some ⟨NS,NW,.func (b9 "_law_hands" "_law_hands" (aR mO) (aP mO) (aE mO) .none NT K4 NU NX AX NV),K5⟩)
  (QY:b8 K AX "_law_hands" = true)
  (QZ:bp K (.ref Cc)=true)
  (R1:de K cg "_law_taken" = some (some (.ref Cd)))
  {NY NZ K6 O0 AY O1:Value} {O2 O3:Option Addr} {K7:Array (Option Value)}
  (R3:K.lookup Cd=some ⟨NY,O2,.func (b9 "_law_taken" "_law_taken" (aR mR) (aP mR) (aE mR) .none NZ K6 O0 O3 AY O1),K7⟩)
  (R4:b8 K AY "_law_taken" = true)
  (R5:bp K (.ref Cd)=true)
  (Uu:de K cg "_law_seen" = some (some (.ref Gm)))
  {R6 R7 O4 R8 Eh R9:Value} {Ra Rb:Option Addr} {O5:Array (Option Value)}
  (Uv:K.lookup Gm=some ⟨R6,Ra,.func (b9 "_law_seen" "_law_seen" (aR sU) (aP sU) (aE sU) .none R7 O4 R8 Rb Eh R9),O5⟩)
  (Uw:b8 K Eh "_law_seen" = true)
  (Ux:bp K (.ref Gm)=true)
  (Rc:de K cg "_law_mixed" = some (some (.ref Ce)))
  {O6 O7 K8 O8 AZ O9:Value} {O' Oa:Option Addr} {K9:Array (Option Value)}
  (Re:K.lookup Ce=some ⟨O6,O',.func (b9 "_law_mixed" "_law_mixed" (aR mS) (aP mS) (aE mS) .none O7 K8 O8 Oa AZ O9),K9⟩)
  (Rf:b8 K AZ "_law_mixed" = true)
  (Rg:bp K (.ref Ce)=true)
  (WK:de K cg "_law_act" = some (some (.ref NQ)))
  {Uy Uz Rh UA II UB:Value} {UC UD:Option Addr} {Ri:Array (Option Value)}
  (WL:K.lookup NQ=some ⟨Uy,UC,.func (b9 "_law_act" "_law_act" (aR AH) (aP AH) (aE AH) .none Uz Rh UA UD II UB),Ri⟩)
  (WM:b8 K II "_law_act" = true)
  (WN:bp K (.ref NQ)=true)
  (UE:de K cg "_law_step" = some (some (.ref Gn)))
  {Rj Rk Ob Rl Ei Rm:Value} {Rn Ro:Option Addr} {Oc:Array (Option Value)}
  (UF:K.lookup Gn=some ⟨Rj,Rn,.func (b9 "_law_step" "_law_step" (aR sV) (aP sV) (aE sV) .none Rk Ob Rl Ro Ei Rm),Oc⟩)
  (UG:b8 K Ei "_law_step" = true)
  (UH:bp K (.ref Gn)=true)
  (Ej:de K cg "number_of" = some (some (.ref lV)))
  {Cj Ck zF Cm nU Cn:Value} {Co Cp:Option Addr} {zG:Array (Option Value)}
  (Ek:K.lookup lV=some ⟨Cj,Co,.func (b9 "number_of" "number_of" (aR dF) (aP dF) (aE dF) .none Ck zF Cm Cp nU Cn),zG⟩)
  (El:b8 K nU "number_of" = true)
  (Em:bp K (.ref lV)=true)
  (K':de K cg "last_of" = some (some (.ref tI)))
  {Gs Gu En Gv uG Gw:Value} {Gx Gy:Option Addr} {Eo:Array (Option Value)}
  (Ka:K.lookup tI=some ⟨Gs,Gx,.func (b9 "last_of" "last_of" (aR fP) (aP fP) (aE fP) .none Gu En Gv Gy uG Gw),Eo⟩)
  (Kb:b8 K uG "last_of" = true)
  (Kc:bp K (.ref tI)=true)
  (Rp:de K cg "stamp" = some (some (.ref Cf)))
  {Od Oe Ke Of B0 Og:Value} {Oh Oi:Option Addr} {Kf:Array (Option Value)}
  (Rq:K.lookup Cf=some ⟨Od,Oh,.func (b9 "stamp" "stamp" (aR mT) (aP mT) (aE mT) .none Oe Ke Of Oi B0 Og),Kf⟩)
  (Rr:b8 K B0 "stamp" = true)
  (Rt:bp K (.ref Cf)=true)
  (Ru:de K cg "bound" = some (some (.ref Cg)))
  {Oj Ol Kg Om B1 On:Value} {Oo Oq:Option Addr} {Kh:Array (Option Value)}
  (Rv:K.lookup Cg=some ⟨Oj,Oo,.func (b9 "bound" "bound" (aR mU) (aP mU) (aE mU) .none Ol Kg Om Oq B1 On),Kh⟩)
  (Rw:b8 K B1 "bound" = true)
  (Rx:bp K (.ref Cg)=true)
  (Os:de K cg "joined" = some (some (.ref yK)))
  {Ki Kj Gz Kk yN Kl:Value} {Km Kn:Option Addr} {GA:Array (Option Value)}
  (Ot:K.lookup yK=some ⟨Ki,Km,.func (b9 "joined" "joined" (aR iR) (aP iR) (aE iR) .none Kj Gz Kk Kn yN Kl),GA⟩)
  (Ou:b8 K yN "joined" = true)
  (Ov:bp K (.ref yK)=true)
  (Ko:de K cg "widened" = some (some (.ref tJ)))
  {GB GC Ep GD uH GE:Value} {GF GG:Option Addr} {Er:Array (Option Value)}
  (Kr:K.lookup tJ=some ⟨GB,GF,.func (b9 "widened" "widened" (aR fR) (aP fR) (aE fR) .none GC Ep GD GG uH GE),Er⟩)
  (Ks:b8 K uH "widened" = true)
  (Kt:bp K (.ref tJ)=true)
  (Ry:de K cg "known" = some (some (.ref Ci)))
  {Ow Ox Ku Oy B2 Oz:Value} {OA OB:Option Addr} {Kv:Array (Option Value)}
  (Rz:K.lookup Ci=some ⟨Ow,OA,.func (b9 "known" "known" (aR mX) (aP mX) (aE mX) .none Ox Ku Oy OB B2 Oz),Kv⟩)
  (RA:b8 K B2 "known" = true)
  (RB:bp K (.ref Ci)=true)
  (UI:de K cg "rank" = some (some (.ref Gp)))
  {RC RD OC RF Es RG:Value} {RI RJ:Option Addr} {OD:Array (Option Value)}
  (UJ:K.lookup Gp=some ⟨RC,RI,.func (b9 "rank" "rank" (aR sW) (aP sW) (aE sW) .none RD OC RF RJ Es RG),OD⟩)
  (UK:b8 K Es "rank" = true)
  (UL:bp K (.ref Gp)=true)
  (GH:de K cg "in_order" = some (some (.ref oU)))
  {Et Eu Cq Ew rA Ex:Value} {Ey Ez:Option Addr} {Cr:Array (Option Value)}
  (GI:K.lookup oU=some ⟨Et,Ey,.func (b9 "in_order" "in_order" (aR eI) (aP eI) (aE eI) .none Eu Cq Ew Ez rA Ex),Cr⟩)
  (GJ:b8 K rA "in_order" = true)
  (GK:bp K (.ref oU)=true)
  (OE:de K cg "covers" = some (some (.ref yL)))
  {Kw Kx GL Ky yO Kz:Value} {KA KB:Option Addr} {GM:Array (Option Value)}
  (OF:K.lookup yL=some ⟨Kw,KA,.func (b9 "covers" "covers" (aR iS) (aP iS) (aE iS) .none Kx GL Ky KB yO Kz),GM⟩)
  (OG:b8 K yO "covers" = true)
  (OH:bp K (.ref yL)=true)
  (UM:de K cg "sunk" = some (some (.ref Gq)))
  {RK RL OI RM EA RN:Value} {RP RQ:Option Addr} {OJ:Array (Option Value)}
  (UN:K.lookup Gq=some ⟨RK,RP,.func (b9 "sunk" "sunk" (aR sY) (aP sY) (aE sY) .none RL OI RM RQ EA RN),OJ⟩)
  (UO:b8 K EA "sunk" = true)
  (UP:bp K (.ref Gq)=true)
  (KC:de K cg "name_of" = some (some (.ref tK)))
  {GN GO EB GP uI GQ:Value} {GR GS:Option Addr} {EC:Array (Option Value)}
  (KD:K.lookup tK=some ⟨GN,GR,.func (b9 "name_of" "name_of" (aR fT) (aP fT) (aE fT) .none GO EB GP GS uI GQ),EC⟩)
  (KF:b8 K uI "name_of" = true)
  (KG:bp K (.ref tK)=true)
  (GT:de K cg "taker_of" = some (some (.ref oV)))
  {ED EE Cs EF rB EG:Value} {EH EI:Option Addr} {Ct:Array (Option Value)}
  (GU:K.lookup oV=some ⟨ED,EH,.func (b9 "taker_of" "taker_of" (aR eJ) (aP eJ) (aE eJ) .none EE Cs EF EI rB EG),Ct⟩)
  (GV:b8 K rB "taker_of" = true)
  (GW:bp K (.ref oV)=true)
  (OK:de K cg "takers" = some (some (.ref yM)))
  {KH KI GX KJ yP KL:Value} {KM KN:Option Addr} {GY:Array (Option Value)}
  (OL:K.lookup yM=some ⟨KH,KM,.func (b9 "takers" "takers" (aR iT) (aP iT) (aE iT) .none KI GX KJ KN yP KL),GY⟩)
  (OM:b8 K yP "takers" = true)
  (ON:bp K (.ref yM)=true)
  (GZ:de K cg "in_force" = some (some (.ref oW)))
  {EJ EK Cu EL rC EM:Value} {EN EO:Option Addr} {Cv:Array (Option Value)}
  (Ha:K.lookup oW=some ⟨EJ,EN,.func (b9 "in_force" "in_force" (aR eK) (aP eK) (aE eK) .none EK Cu EL EO rC EM),Cv⟩)
  (Hb:b8 K rC "in_force" = true)
  (Hc:bp K (.ref oW)=true)
  (KO:de K cg "settled" = some (some (.ref tL)))
  {Hd He ER Hf uJ Hg:Value} {Hh Hi:Option Addr} {ES:Array (Option Value)}
  (KQ:K.lookup tL=some ⟨Hd,Hh,.func (b9 "settled" "settled" (aR fU) (aP fU) (aE fU) .none He ER Hf Hi uJ Hg),ES⟩)
  (KR:b8 K uJ "settled" = true)
  (KS:bp K (.ref tL)=true)
  (Cw:de K cg "_law_first_ones" = some (some (.ref jR)))
  {zH zI yQ zJ lW zK:Value} {zL zM:Option Addr} {yR:Array (Option Value)}
  (Cy:K.lookup jR=some ⟨zH,zL,.func (b9 "_law_first_ones" "_law_first_ones" (aR cR) (aP cR) (aE cR) .none zI yQ zJ zM lW zK),yR⟩)
  (Cz:b8 K lW "_law_first_ones" = true)
  (CA:bp K (.ref jR)=true)
  (UQ:de K cg "_law_held" = some (some (.ref Gr)))
  {RR RS OO RT ET RU:Value} {RW RX:Option Addr} {OP:Array (Option Value)}
  (UR:K.lookup Gr=some ⟨RR,RW,.func (b9 "_law_held" "_law_held" (aR sZ) (aP sZ) (aE sZ) .none RS OO RT RX ET RU),OP⟩)
  (US:b8 K ET "_law_held" = true)
  (UT:bp K (.ref Gr)=true)
  (WO:de K cg "law" = some (some (.ref NR)))
  {UU OQ IJ OR CB OS:Value} {UV OT:Option Addr} {RY:Array (Option Value)}
  (WQ:K.lookup NR=some ⟨UU,UV,.func (b9 "law" "law" (aR qU) (aP qU) (aE qU) .none OQ IJ OR OT CB OS),RY⟩)
  (WR:b8 K CB "law" = true)
  (WS:bp K (.ref NR)=true)
  : ∃fd:c5,(∀(s:Shared)(v:Value),BindsTo s fd ⟨[v],[]⟩ [("_law_script",v)])/\∀base:Heap,K.In base->base.Ns cg mg->aV l.prog w K mg base CX0 9 fa fd ["_law_script"] (spL K):=by
 have e:=hfa.symm.trans (PySem.W.mg_of X G WO);cases e
 refine⟨b9 "law" "law" (aR qU) (aP qU) (aE qU) .none OQ IJ OR OT CB OS,λs v=>.of_eq rfl,λbase _ _=>?_⟩;have C9:E8 l.prog w K mg base (λz=>none):=fL (Def.mk' X G QW QX QY QZ (λ_ _ _ _ _ _ us hl=>Cb us hl λ_=>rfl)) λF=>Ny (cl:=λz=>none) hbn F;have Ca:E9 l.prog w K mg base (λz=>none):=fL (Def.mk' X G R1 R3 R4 R5 (λ_ _ _ _ _ _ us hl=>Ut us hl λ_ _ _=>rfl)) λF=>Nz (cl:=λz=>none) hbn F;have G9:IB l.prog w K mg base (λz=>none):=fL (Def.mk' X G Uu Uv Uw Ux (λ_ _ _ _ _ _ us hl=>yJ us hl λ_ _=>rfl)) λF=>QL (cl:=λz=>none) hbn F;have C6:Ea l.prog w K mg base (λz=>none):=fL (Def.mk' X G Rc Re Rf Rg (λ_ _ _ _ _ _ us hl=>yJ us hl λ_ _=>rfl)) λF=>NA (cl:=λz=>none) hbn F;have NB:Nw l.prog w K mg base (λz=>none):=fL (Def.mk' X G WK WL WM WN (λ_ _ _ _ _ _ us hl=>Ut us hl λ_ _ _=>rfl)) λF=>Uk (cl:=λz=>none) hbn F C6;have Gj:IC l.prog w K mg base (λz=>none):=fL (Def.mk' X G UE UF UG UH (λ_ _ _ _ _ _ us hl=>Yb us hl λ_ _ _ _=>rfl)) λF=>QO (cl:=λz=>none) hbn F G9 NB;have lU:qW l.prog w K mg base (λz=>none):=fL (Def.mk' X G Ej Ek El Em (λ_ _ _ _ _ _ us hl=>Cb us hl λ_=>rfl)) λF=>C7 (cl:=λz=>none) hbn F;have fV:oM l.prog w K mg base (λz=>none):=fL (Def.mk' X G K' Ka Kb Kc (λ_ _ _ _ _ _ us hl=>yJ us hl λ_ _=>rfl)) λF=>Ga (cl:=λz=>none) hbn F lU;have cF:iU l.prog w K mg base (λz=>none):=fL (Def.mk' X G Rp Rq Rr Rt (λ_ _ _ _ _ _ us hl=>Cb us hl λ_=>rfl)) λF=>NC (cl:=λz=>none) hbn F;have fM:qX l.prog w K mg base (λz=>none):=fL (Def.mk' X G Ru Rv Rw Rx (λ_ _ _ _ _ _ us hl=>yJ us hl λ_ _=>rfl)) λF=>ND (cl:=λz=>none) hbn F fV cF;have yG:AU l.prog w K mg base (λz=>none):=fL (Def.mk' X G Os Ot Ou Ov (λ_ _ _ _ _ _ us hl=>yJ us hl λ_ _=>rfl)) λF=>JV (cl:=λz=>none) hbn F;have tF:yD l.prog w K mg base (λz=>none):=fL (Def.mk' X G Ko Kr Ks Kt (λ_ _ _ _ _ _ us hl=>yJ us hl λ_ _=>rfl)) λF=>Gb (cl:=λz=>none) hbn F yG;have C8:Eb l.prog w K mg base (λz=>none):=fL (Def.mk' X G Ry Rz RA RB (λ_ _ _ _ _ _ us hl=>yJ us hl λ_ _=>rfl)) λF=>NH (cl:=λz=>none) hbn F fV tF;have Gc:ID l.prog w K mg base (λz=>none):=fL (Def.mk' X G UI UJ UK UL (λ_ _ _ _ _ _ us hl=>Cb us hl λ_=>rfl)) λF=>QP (cl:=λz=>none) hbn F cF;have eO:lN l.prog w K mg base (λz=>none):=fL (Def.mk' X G GH GI GJ GK (λ_ _ _ _ _ _ us hl=>Cb us hl λ_=>rfl)) λF=>Ee (cl:=λz=>none) hbn F Gc;have yH:AV l.prog w K mg base (λz=>none):=fL (Def.mk' X G OE OF OG OH (λ_ _ _ _ _ _ us hl=>yJ us hl λ_ _=>rfl)) λF=>JY (cl:=λz=>none) hbn F;have Gi:IE l.prog w K mg base (λz=>none):=fL (Def.mk' X G UM UN UO UP (λ_ _ _ _ _ _ us hl=>yJ us hl λ_ _=>rfl)) λF=>QQ (cl:=λz=>none) hbn F cF fM C8 eO yH;have tG:yE l.prog w K mg base (λz=>none):=fL (Def.mk' X G KC KD KF KG (λ_ _ _ _ _ _ us hl=>Cb us hl λ_=>rfl)) λF=>Gd (cl:=λz=>none) hbn F;have oQ:uF l.prog w K mg base (λz=>none):=fL (Def.mk' X G GT GU GV GW (λ_ _ _ _ _ _ us hl=>yJ us hl λ_ _=>rfl)) λF=>Ef (cl:=λz=>none) hbn F;have yI:AW l.prog w K mg base (λz=>none):=fL (Def.mk' X G OK OL OM ON (λ_ _ _ _ _ _ us hl=>Cb us hl λ_=>rfl)) λF=>JZ (cl:=λz=>none) hbn F tG oQ;have eP:lO l.prog w K mg base (λz=>none):=fL (Def.mk' X G GZ Ha Hb Hc (λ_ _ _ _ _ _ us hl=>Cb us hl λ_=>rfl)) λF=>Eg (cl:=λz=>none) hbn F eO yI;have tH:yF l.prog w K mg base (λz=>none):=fL (Def.mk' X G KO KQ KR KS (λ_ _ _ _ _ _ us hl=>yJ us hl λ_ _=>rfl)) λF=>Gh (cl:=λz=>none) hbn F cF fM eP;have jQ:nR l.prog w K mg base (λz=>none):=fL (Def.mk' X G Cw Cy Cz CA (λ_ _ _ _ _ _ us hl=>Cb us hl λ_=>rfl)) λF=>zE (cl:=λz=>none) hbn F;have Gk:IF l.prog w K mg base (λz=>none):=fL (Def.mk' X G UQ UR US UT (λ_ _ _ _ _ _ us hl=>Ut us hl λ_ _ _=>rfl)) λF=>QT (cl:=λz=>none) hbn F cF fM Gi eP tH jQ;refine(Uq (cl:=λz=>none) hbn (F5 (st:=qU) WQ WR WS) C9 Ca Gj Gk).imp λvs H Q E hh=>?_;obtain⟨a,ns,rfl,hO,hS,hl,hq⟩:=hh;exact TF (C:=cC w K (λz=>none)) hO hS (main ns hl) hq
theorem walk{l:PySem.W.OpenLaw}{q:Program}{loose:List Str}{XP:(Str->Option Value)->Heap->Prop}{YP:World->Heap->Prop}{d:DefRec}{K:Params->ah}(hn:l.most=some 63)(hdf:d.params.defaults=[])
  (hY:∀(w:World)(h:Heap),YP w h->(K w.params).In h)
  (F:∀(w:World)(mg:Str->Option Value)(fa:Addr)(h:Heap),(K w.params).In h->h.Ns cg mg->mg d.name=some (.ref fa)->
   ∃fd:c5,(∀(s:Shared)(u:Value),BindsTo s fd ⟨[u],[]⟩ [("_law_script",u)])/\∀base:Heap,(K w.params).In base->base.Ns cg mg->aV l.prog w (K w.params) mg base CX0 9 fa fd ["_law_script"] (spL (K w.params))):
  PySem.W.WalkO q loose XP YP l.row.toRowW d [] (λf vs=>PySem.call f vs):=
 L2.walk_of (n:=63) (k:=9) (x:="_law_script") (CX:=λ_=>CX0) (sp:=λw=>spL (K w.params)) hn (by decide) hdf ⟨rfl,by decide,by decide⟩ hY F (λw H a ns hl hO hS=>⟨a,ns,rfl,hO,hS,hl,λ_=>rfl⟩) λ_ _ _ _ _ z=>z
end K78
open PySem PySem.W PyProof.Rows
set_option maxRecDepth 100000 in
set_option maxHeartbeats 0 in
inductive PySem.W.Fast|tw3415581910849644413|tw16059265539849795235|tw15200418019529821531|tw362585092509127896|tw10038426099983898411|tw11236442956096277473|tw16166113975105813820|tw16885017374799922967|tw12038614230895857211|tw9274415627816730156|tw16787997442450213907|tw2946033528802503003|tw2246536221491930994|tw1364159046206290204|tw3262805338153949198|tw10379055705571965421|tw8177811093156704283|tw14138051370166413498|tw15386210075346561861|tw2153146469014621998|tw9543832907369043736|tw11296426935763804833|tw15658358224324098911|tw7835305951087221205|tw7828273585981704992|tw5053926660451521270|tw13268987143975764425|tw125801498476808916|tw10176177781391623654|tw13655453649470148428|tw10469440086861585978|tw9003696698129957989|tw10963880622304681055|tw16364221088975821954|tw16481626684436803912|tw7527059113044163454|tw14109736704026351770|tw12945296040633933686|tw301450922477606119|tw3890319229505763265|tw6044181058053145001|tw10348749475179160815|tw2374319450391496616|tw4005011587073703497|tw413518507491233723|tw12428110023249754252|tw17858095173906593744|tw1591533002513127533|tw15025184838739378475|tw14489850936667092116|tw16147678715065443568|tw5157771530351755925|tw18275576553981184676|tw6460382849090521968|tw13376462855887191784|tw15273195157028598169|tw15750305589307136355|tw13060376596682839836|tw9253991247771380561|tw4301114318960140112|tw13871191332229180678|tw12404115492228711371
theorem PySem.Challenge.cw_copymeet_k78_whole_settled_for_good_holds : PySem.Challenge.rw_copymeet_k78_whole_settled_for_good.Holds := by
 w_on; o_law; k_head; (case hw=>w_witness2)
 k_fill
 refine K78.walk (l:=PySem.Challenge.rw_copymeet_k78_whole_settled_for_good) rfl rfl (fun w h Y=>PySem.W.kIn_of Y) ?F
 case F=>
  intro w mg fa h KX G hmg
  have hbn:∀ x∈K78.bsL,mg x=none:=fun x hx=>by
   rcases List.mem_cons.mp hx with rfl | hx
   ·exact PySem.W.mg_none_of KX G (by k_is)
   rcases List.mem_cons.mp hx with rfl | hx
   ·exact PySem.W.mg_none_of KX G (by k_is)
   rcases List.mem_cons.mp hx with rfl | hx
   ·exact PySem.W.mg_none_of KX G (by k_is)
   rcases List.mem_cons.mp hx with rfl | hx
   ·exact PySem.W.mg_none_of KX G (by k_is)
   rcases List.mem_cons.mp hx with rfl | hx
   ·exact PySem.W.mg_none_of KX G (by k_is)
   rcases List.mem_cons.mp hx with rfl | hx
   ·exact PySem.W.mg_none_of KX G (by k_is)
   rcases List.mem_cons.mp hx with rfl | hx
   ·exact PySem.W.mg_none_of KX G (by k_is)
   rcases List.mem_cons.mp hx with rfl | hx
   ·exact PySem.W.mg_none_of KX G (by k_is)
   rcases List.mem_cons.mp hx with rfl | hx
   ·exact PySem.W.mg_none_of KX G (by k_is)
   rcases List.mem_cons.mp hx with rfl | hx
   ·exact PySem.W.mg_none_of KX G (by k_is)
   rcases List.mem_cons.mp hx with rfl | hx
   ·exact PySem.W.mg_none_of KX G (by k_is)
   cases hx
  refine' K78.all_mk KX G hmg hbn ?h0 ?h1 ?h2 ?h3 ?h4 ?h5 ?h6 ?h7 ?h8 ?h9 ?h10 ?h11 ?h12 ?h13 ?h14 ?h15 ?h16 ?h17 ?h18 ?h19 ?h20 ?h21 ?h22 ?h23 ?h24 ?h25 ?h26 ?h27 ?h28 ?h29 ?h30 ?h31 ?h32 ?h33 ?h34 ?h35 ?h36 ?h37 ?h38 ?h39 ?h40 ?h41 ?h42 ?h43 ?h44 ?h45 ?h46 ?h47 ?h48 ?h49 ?h50 ?h51 ?h52 ?h53 ?h54 ?h55 ?h56 ?h57 ?h58 ?h59 ?h60 ?h61 ?h62 ?h63 ?h64 ?h65 ?h66 ?h67 ?h68 ?h69 ?h70 ?h71 ?h72 ?h73 ?h74 ?h75 ?h76 ?h77 ?h78 ?h79 ?h80 ?h81 ?h82 ?h83 ?h84 ?h85 ?h86 ?h87 ?h88 ?h89 ?h90 ?h91 ?h92 ?h93 ?h94 ?h95 ?h96 ?h97 ?h98 ?h99
  (case h0=>k_is)
  (case h1=>k_is)
  (case h2=>k_is)
  (case h3=>k_is)
  (case h4=>k_is)
  (case h5=>k_is)
  (case h6=>k_is)
  (case h7=>k_is)
  (case h8=>k_is)
  (case h9=>k_is)
  (case h10=>k_is)
  (case h11=>k_is)
  (case h12=>k_is)
  (case h13=>k_is)
  (case h14=>k_is)
  (case h15=>k_is)
  (case h16=>k_is)
  (case h17=>k_is)
  (case h18=>k_is)
  (case h19=>k_is)
  (case h20=>k_is)
  (case h21=>k_is)
  (case h22=>k_is)
  (case h23=>k_is)
  (case h24=>k_is)
  (case h25=>k_is)
  (case h26=>k_is)
  (case h27=>k_is)
  (case h28=>k_is)
  (case h29=>k_is)
  (case h30=>k_is)
  (case h31=>k_is)
  (case h32=>k_is)
  (case h33=>k_is)
  (case h34=>k_is)
  (case h35=>k_is)
  (case h36=>k_is)
  (case h37=>k_is)
  (case h38=>k_is)
  (case h39=>k_is)
  (case h40=>k_is)
  (case h41=>k_is)
  (case h42=>k_is)
  (case h43=>k_is)
  (case h44=>k_is)
  (case h45=>k_is)
  (case h46=>k_is)
  (case h47=>k_is)
  (case h48=>k_is)
  (case h49=>k_is)
  (case h50=>k_is)
  (case h51=>k_is)
  (case h52=>k_is)
  (case h53=>k_is)
  (case h54=>k_is)
  (case h55=>k_is)
  (case h56=>k_is)
  (case h57=>k_is)
  (case h58=>k_is)
  (case h59=>k_is)
  (case h60=>k_is)
  (case h61=>k_is)
  (case h62=>k_is)
  (case h63=>k_is)
  (case h64=>k_is)
  (case h65=>k_is)
  (case h66=>k_is)
  (case h67=>k_is)
  (case h68=>k_is)
  (case h69=>k_is)
  (case h70=>k_is)
  (case h71=>k_is)
  (case h72=>k_is)
  (case h73=>k_is)
  (case h74=>k_is)
  (case h75=>k_is)
  (case h76=>k_is)
  (case h77=>k_is)
  (case h78=>k_is)
  (case h79=>k_is)
  (case h80=>k_is)
  (case h81=>k_is)
  (case h82=>k_is)
  (case h83=>k_is)
  (case h84=>k_is)
  (case h85=>k_is)
  (case h86=>k_is)
  (case h87=>k_is)
  (case h88=>k_is)
  (case h89=>k_is)
  (case h90=>k_is)
  (case h91=>k_is)
  (case h92=>k_is)
  (case h93=>k_is)
  (case h94=>k_is)
  (case h95=>k_is)
  (case h96=>k_is)
  (case h97=>k_is)
  (case h98=>k_is)
  (case h99=>k_is)
