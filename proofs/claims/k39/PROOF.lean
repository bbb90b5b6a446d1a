import PyProof.Rows.All
import Wide.All
import OpenK.AllK
import Wide.FinOn
import Lean
import PyProof.EqAt
import PyProof.EqKinds
import PyProof.TupleCall
import PyProof.Rows.SortShell
import PyProof.NeKinds
import KE.KDictOf
import PyProof.AttrMissHeap
import PyProof.WalksMore
import PyProof.MeetsDict
import KE.KDictList
import KE.KRevIter
import PyProof.DictItemsLoops
import PyProof.DictWalks
import KE.KSortTup
import KE.KDictSum
import PyProof.SumAny
import PyProof.Conv_int_bool
import PyProof.Conv_int
import KE.KRevSl
import PyProof.MeetsStr
import PyProof.StrCalls3
import PyProof.Rows.TupDisplay
import PyProof.ZipIter
import PyProof.Draws
import PySem.Challenge.RW_copymeet_k39_whole_written_apart
open PySem renaming wpAny_bind->aa,wpAny_pure->af,sizeLine->bp,starEach->da,Spec->d3,compareOp->d6,FuncData->e7,mainGlobals->fb,sizeLine_eq->fm,wpAny_holding->fo,cellsFrom->iq,wpAny_call_entry->ir,wpAny_newObj_type->iw,binaryOp->jc,wpAny_field->jf,wpAny_mono->ji,wpAny_callSpecial?_slot->ju,codeAny_builtin->jx,sysModules->j7,wpAny_seqItems->kg,wpAny_specialOf->km,wpAny_typeNameOfWhole_itemiter->kn,plainId_quiet->kz,foldedSetIterable->k5,assignEach->mn,wpAny_rule->mq,attributeBase->my,wpAny_typeOf->mz,wpAny_notOrdered_dict->m7,slot_dict_contains->m8,wpAny_setField_rec->m9,wpAny_typeNameOf_itemiter->nu,wpAny_passesOwn->n5,DictEntry->n9,wpAny_dictEntries->oh,mem_of_lookup->ot,wpAny_Call_Name_kw->p4,NameKind->p7,bootBuiltins->qc,wpAny_truthy_bool->qm,wpAny_pyIter_list->qo,wpAny_forIn_list->rg
open List renaming getElem?_eq_some_iff->ab,mem_append_right->ah,mem_append->ai,mem_cons_of_mem->aj,append_assoc->ak,length_map->aq,getElem?_map->ar,getElem?_append_right->au,getD_eq_getElem?_getD->av,mem_cons_self->aw,all_eq_true->ay,length_append->az,prefix_rfl->ba,pairwise_append->bg,size_toArray->bh,mem_cons->bx,mem_map->bz,mem_append_left->b0,take_append_drop->b8,getElem?_append_left->b9,length_take->cf,mem_of_getElem?->cq,mem_singleton->cw,mem_of_mem_take->cz,getElem?_eq_getElem->c8,getElem_mem->de,lookup_cons->df,set_cons_succ->di,set_cons_zero->dj,length_cons->dm,map_cons->dn,pairwise_iff_getElem->dq,getElem?_set_ne->dr,length_drop->dv,append_nil->dz,mem_of_mem_drop->d4,drop_eq_getElem_cons->d7,map_append->d9,prefix_append->fe,range->fg,take_of_length_le->fi,getElem_of_mem->fj,drop_zero->fq,getElem?_cons_succ->fu,pairwise_cons->f9,nodup_append->gc,cons_lt_cons_iff->gm,getElem_take->gz,mem_iff_getElem?->ic,all_cons->ie,nodup_cons->ip,pairwise_reverse->i3,mem_reverse->i5,reverse_perm->i7,pairwise_singleton->i8,pairwise_map->i9,nil_append->jd,length_reverse->jg,getElem_drop->jl,getElem?_eq_none->jm,mem_filter->jt,cons_append->j2,all_map->j3,getElem?_set_self->j4,take_add_one->ka,filter_sublist->kc,not_mem_nil->ku,ext_getElem?->k7,length_range->k8,filter_congr->k9,find?_cons->l0,drop_of_length_le->mf,getElem?_zip_eq_some->nq,map_map->oj,filterMap_cons->om,any_cons->ou,length_eq_zero_iff->ow,not_lt->oz,map_congr_left->o5,filter_eq_self->o6,take_length->o9,replicate->pf,mem_filterMap->ph,length_set->qd,perm_append_comm->qf,length_filter_le->qj,perm_ext_iff_of_nodup->qq,mem_range->qt,take_zero->qv,mem_flatMap->rj,lookup->tj
open PySem.Heap renaming get?_push_of_some->ae,lt_size->bf,get?_push_size->bo,size_push->i4,get?_update_self->jk,get?_update_other->j5,SameBut->mx,get?_push_ne->og,size_update->q0
open PySem.W renaming Frag->ag,keepIn->dg,fnOf->dw,codeIn->d0,findIn->fw,nsIn->gq,emptyDict->jj,instObj->lj,plainGet->qx,isFn->r6
open Nat renaming le_refl->bq,ne_of_lt->bu,zero_le->cv,lt_of_lt_of_le->c9,le_trans->fv,add_sub_cancel_left->ig,lt_irrefl->i6,ne_of_gt->ja,sub_zero->j0,zero_add->j1,le_of_lt->oi,le_add_right->o8,lt_trans->qe,lt_succ_self->qy,sub_self->r8
open Option renaming map_eq_some_iff->br,isSome_iff_exists->ko,isSome_some->sj
open PyProof.Rows renaming wpS_bind->bw,wpS_pure->cj,pendingOf->d8,slot_tuple_getitem->gx,wpS_forRange->iy,SortKind->kr,callWith_type1->lu,wpS_mono->md,failedOf->m4,listUpdate_at->m6,setPending->oa,get?_update_seq->qh
open Bool renaming and_eq_true->cg,false_ne_true->cu,false_eq_true->d5,eq_iff_iff->gb,not_eq_true'->k6,beq_eq_decide_eq->qi
open PySem.Value renaming none->cx,ref->dh,builtin->sx
open Option.some renaming inj->cy
open List.Perm renaming append_left->du,refl->jr,append_right->j6,trans->kj,eq_of_pairwise->sh
open PySem.Obj renaming mapSeq->fc,mapFields->sy
open PySem.Paired renaming length->ft
open PySem.Str renaming ofString->gf
open PySem.NameKind renaming free->gg,cell->sr
open PySem.Around renaming under_plainId->gv
open PySem.Heap.SameBut renaming update->ik
open List.cons renaming injEq->iu
open PySem.Builtin.Tuple renaming tupleHashOf->ix,tupleExact->n8,tupleItemsOf->qp
open Ne renaming symm->iz
open PySem.F renaming slot_dict_itemiterator_next->je,slot_list_append->jo,type_list_append->jq,plainAttrs_list->jz,plain_extend_loop->kh,slot_zip_next->qk,slot_NoneType_hash->qr
open PySem.Builtin.SmallTypes renaming ownedTupleIsFree->jh,nextOf->nr,ownedTupleHandOut->qw
open Prod renaming fst->jv
open Classical renaming propDecidable->jw
open PySem.Builtin.Dict renaming updateFrom->jy,addKeywords->r9,selfAndRest->se,pairItems->ti
open False renaming elim->j8
open List.Pairwise renaming nil->j9
open Int renaming emod_nonneg->l8,emod_lt_of_pos->nc
open PySem.Builtin.Slice renaming slicePlaces->nj,sliceAdjust->qu
open Array renaming length_toList->oq,toList_inj->qz
open True renaming intro->pe
open PySem.Builtin.Dict_items renaming ownsTuple->p8,ownedTupleIsFree->rn
open PySem.Builtin.Str renaming strSliceIndices->qg
open PySem.Builtin.List renaming listExtendWith->ql
open ForInStep renaming yield->sk
open List.Sublist renaming nodup->tf
open Sum renaming inr->tm
open PySem PySem.Spec PyProof.Rows
open Option renaming some->a_,none->b_
open PySem renaming Value->s_,Shared->tw,Addr->t7,Around->t9,Heap->t_,World->ua,Program->ub,Expr->uc,Stmt->ud
local macro_rules|`(i_ $x)=>`(λz=>if z=("Signs":PySem.Str) then some $x else none)
local macro_rules|`(jn 0)=>`(⟨rfl,rfl,rfl,by decide +kernel,rfl,by decide +kernel,by decide +kernel⟩)
local macro_rules|`(c_ $x)=>`(some (.ref $x))
local macro_rules|`(d_ $x)=>`(some (.int $x))
local macro_rules|`(h_ $x)=>`(PySem.model ($x).prog ($x).w)
local macro_rules|`(e_ $x)=>`(($x).heap.objs.size)
local macro_rules|`(f_ 0)=>`(PySem.Value->PySem.Shared->Prop)
local macro_rules|`(g_ 0)=>`(List (PySem.Addr×PySem.Obj))
local macro_rules|`(j_ $x)=>`($x->PySem.Shared->Prop)
local macro_rules|`(m_ $p $w $x*)=>`(PySem.wpAny (PySem.model $p $w) $x*)
local macro_rules|`(l_ $x)=>`(by simpa using $x)
local macro_rules|`(⋯)=>`(by omega)
local macro_rules|`(tactic|omega)=>`(tactic|lia)
local macro_rules|`(nofun)=>`(by decide)
local macro_rules|`(n_ 0)=>`(Array (Option PySem.Value))
local macro_rules|`(o_ 0)=>`(PySem.Str->Option PySem.Value)
open Lean Parser Tactic in
def p_:Nat->Syntax->MacroM (TSyntax `rcasesPat)
|n+1,s=>match s with
 |`($x:ident)=>`(rcasesPat|$x:ident)
 |`(⟨$xs,*⟩)=>do
  let ys<-xs.getElems.mapM λx=>do`(rcasesPatLo|$(<-p_ n x):rcasesPat)
  `(rcasesPat|⟨$ys,*⟩)
 |_=>`(rcasesPat|_)
|_,_=>Macro.throwUnsupported
open Lean Parser Tactic in
local macro_rules|`(tactic|let $p:term:=$e)=>do let q<-`(rcasesPatMed|$(<-p_ 9 p):rcasesPat);`(tactic|obtain $q:rcasesPatMed:=$e)
local macro_rules|`(ue $x)=>`(List $x)
local macro_rules|`(uf $x)=>`(Option $x)
set_option bootstrap.genMatcherCode false
set_option Elab.async false
set_option linter.all false
set_option maxRecDepth 1000000
set_option maxHeartbeats 4000000
namespace L2
abbrev Key:=Sum Int Str
def xP:Key->s_->Bool
 |.inl k,v=>Value.isInt k v
 |.inr x,v=>Value.isStrOf x v
def Sa(w:ua):Key->Int
 |.inl k=>hashInt k
 |.inr x=>hashStr w x
theorem cF:∀{k:Key}{v:s_},xP k v=true->(∃i t,k=Sum.inl i/\v=Value.int i t)\/(∃x t,k=tm x/\v=Value.str x t)
 |.inl i,v,h=>by let⟨t,e⟩:=Value.isInt_shape (k:=i) (v:=v) h;exact .inl ⟨i,t,rfl,e⟩
 |.inr x,v,h=>by let⟨t,e⟩:=Value.isStrOf_shape (x:=x) (v:=v) h;exact .inr ⟨x,t,rfl,e⟩
def J8(i:Int)(t:Tok):xP (.inl i) (.int i t)=true:=by simp[xP,Value.isInt]
def J9(x:Str)(t:Tok):xP (.inr x) (.str x t)=true:=by simp[xP,Value.isStrOf]
def Sb(a b:Int):decide ((Sum.inl a:Key)=Sum.inl b)=(a == b):=by
 by_cases e:a=b
 ·subst e;simp
 ·have h:¬ (Sum.inl a:Key)=Sum.inl b:=λq=>e (Sum.inl.inj q);rw[decide_eq_false h];exact(beq_eq_false_iff_ne.mpr e).symm
def Sd(a b:Str):decide ((tm a:Key)=tm b)=decide (a=b):=by
 by_cases e:a=b
 ·subst e;simp
 ·have h:¬ (tm a:Key)=tm b:=λq=>e (Sum.inr.inj q);rw[decide_eq_false h,decide_eq_false e]
def Se(a:Int)(b:Str):decide ((Sum.inl a:Key)=tm b)=false:=decide_eq_false (λq=>nomatch q)
def Sf(a:Str)(b:Int):decide ((tm a:Key)=Sum.inl b)=false:=decide_eq_false (λq=>nomatch q)
def dC(prog:ub)(w:ua):PySem.KeyKind prog w Key where
 is:=xP
 hash:=Sa w
 inj:=λv a b ha hb=>by
  rcases cF ha with⟨i,t,rfl,rfl⟩|⟨x,t,rfl,rfl⟩
  ·rcases cF hb with⟨j,u,rfl,e⟩|⟨y,u,rfl,e⟩
   ·injection e with e1 _;rw[e1]
   ·exact nomatch e
  ·rcases cF hb with⟨j,u,rfl,e⟩|⟨y,u,rfl,e⟩
   ·exact nomatch e
   ·injection e with e1 _;rw[e1]
 byValue:=λk v h=>by rcases cF h with⟨i,t,rfl,rfl⟩|⟨x,t,rfl,rfl⟩ <;> rfl
 pyHash:=λhv h=>by
  rcases cF hv with⟨i,t,rfl,rfl⟩|⟨x,t,rfl,rfl⟩
  ·exact wpAny_pyHash_int h
  ·exact wpAny_pyHash_str h
 eqBool:=λhu hv h=>by
  rcases cF hu with⟨i,t,rfl,rfl⟩|⟨x,t,rfl,rfl⟩
  ·rcases cF hv with⟨j,u,rfl,rfl⟩|⟨y,u,rfl,rfl⟩
   ·rw[Sb]at h;exact wpAny_eqBool_int h
   ·rw[Se]at h;exact SeqAt.EqAt.int_str i t y u _ _ _ _ h
  ·rcases cF hv with⟨j,u,rfl,rfl⟩|⟨y,u,rfl,rfl⟩
   ·rw[Sf]at h;exact SeqAt.EqAt.str_int x t j u _ _ _ _ h
   ·rw[Sd]at h;exact wpAny_eqBool_str h
 «strs»:=λk x t v h=>by
  rcases cF h with⟨i,u,rfl,e⟩|⟨y,u,rfl,e⟩
  ·exact nomatch e
  ·injection e with e1 _;subst e1;cases v <;> rfl
def Dv(prog:ub)(w:ua)(i:Int)(t:Tok):(dC prog w).is (.inl i) (.int i t)=true:=J8 i t
def Dw(prog:ub)(w:ua)(x:Str)(t:Tok):(dC prog w).is (.inr x) (.str x t)=true:=J9 x t
inductive V where
 |non|bl (b:Bool)|int (i:Int)|str (x:Str)|byt (b:Array UInt8)|flt (b:UInt64)|ref (a:Addr)|ty (n:String)
 deriving DecidableEq
def RelV:V->s_->Prop
 |.non,u=>u=cx
 |.bl b,u=>u=Value.bool b
 |.int i,u=>∃t,u=Value.int i t
 |.str x,u=>∃t,u=Value.str x t
 |.byt b,u=>∃t,u=Value.bytes b t
 |.flt b,u=>∃t,u=Value.float b t
 |.ref a,u=>u=dh a
 |.ty n,u=>u=Value.type n
abbrev aR:ue V->ue s_->Prop:=Paired RelV
theorem aR.length{xs:ue V}{us:ue s_}(r:aR xs us):xs.length=us.length:=ft r
theorem aR.get:∀{xs:ue V}{us:ue s_}{i:Nat}{x:V},aR xs us->xs[i]?=a_ x->∃u,us[i]?=a_ u/\RelV x u
 |_,_,_,_,.nil,e=>by simp at e
 |_,_,0,_,.cons r _,e=>by simp at e;subst e;exact⟨_,rfl,r⟩
 |_,_,i+1,x,.cons _ t,e=>by
  let⟨u,h1,h2⟩:=aR.get (i:=i) (x:=x) t (l_ e);exact⟨u,l_ h1,h2⟩
theorem aR.set(r:RelV x u):∀{xs:ue V}{us:ue s_}(i:Nat),aR xs us->aR (xs.set i x) (us.set i u)
 |_,_,_,.nil=>.nil
 |_,_,0,.cons _ t=>.cons r t
 |_,_,i+1,.cons q t=>.cons q (aR.set r i t)
theorem aR.append:∀{xs ys:ue V}{us ws:ue s_},aR xs us->aR ys ws->aR (xs++ys) (us++ws)
 |_,_,_,_,.nil,s=>s
 |_,_,_,_,.cons r t,s=>.cons r (aR.append t s)
theorem aR.take:∀{xs:ue V}{us:ue s_}(n:Nat),aR xs us->aR (xs.take n) (us.take n)
 |_,_,0,_=>.nil
 |_,_,_+1,.nil=>.nil
 |_,_,n+1,.cons r t=>.cons r (aR.take n t)
theorem aR.drop:∀{xs:ue V}{us:ue s_}(n:Nat),aR xs us->aR (xs.drop n) (us.drop n)
 |_,_,0,r=>r
 |_,_,_+1,.nil=>.nil
 |_,_,n+1,.cons _ t=>aR.drop n t
def pN:uf V->uf s_->Prop
 |some v,a_ u=>RelV v u
 |none,b_=>True
 |_,_=>False
def KV{κ:Type}:ue (κ×V)->ue (κ×s_)->Prop:=Paired λ(p:κ×V)(q:κ×s_)=>p.1=q.1/\RelV p.2 q.2
def kV:Key->V
 |.inl i=>.int i
 |.inr x=>.str x
inductive HO where
 /-- a list -/
 |lst (xs:ue V)
 /-- a tuple (never changes) -/
 |tup (xs:ue V)
 /-- a dict whose keys are ints and texts;one whose keys are tuples of ints and texts (the empty one is both) -/
 |dK (kvs:ue (Key×V))|dT (kvs:ue (ue Key×V))
 /-- a set of ints: its members,its size -/
 |set (S:Int->Bool) (n:Nat)
 /-- an instance of the class at C,its dict at dx,its attributes -/
 |ins (C dx:Addr) (fs:ue (Str×V))
 /-- the dict of the instance at x -/
 |own (x:Addr)
 /-- the dict of an exception -/
 |xd (fs:ue (Str×V))
 /-- a bound method,f of x -/
 |met (f x:Addr)
 /-- a range object lo,lo+1,.. below hi -/
 |rng (lo hi:Int)
 /-- a thing that is known to the object (the script;a dict while a loop walks it): read,never written while it is so -/
 |frz (o:Obj) (u:HO)
 /-- a code object's table -/
 |tbl (ps:Array Value)
 /-- any other thing,by what is true of its one object (a def of one's own: SetO a S n:=HO.ext λh=>..) -/
 |ext (φ:Heap->Prop)
abbrev Hp:=t7->uf HO
def upd(H:Hp)(a:t7)(o:HO):Hp:=λb=>if b=a then a_ o else H b
def bE{H:Hp}{a:t7}{o:HO}:upd H a o a=a_ o:=by unfold upd;rw[if_pos rfl]
def aV{H:Hp}{a b:t7}{o:HO}(h:b≠a):upd H a o b=H b:=by unfold upd;rw[if_neg h]
def UU{H:Hp}{a b:t7}{o u:HO}(h:H a=a_ o)(h':H b=a_ u)(d:o≠u):a≠b:=by intro e;subst e;rw[h]at h';exact d (cy h')
def dY{H:Hp}{a b:t7}{o:HO}(h:H a=a_ o)(h':H b=b_):a≠b:=by intro e;subst e;rw[h]at h';cases h'
def tQ(h:t_)(a:t7)(items:Array s_):Prop:=∃o,h.get? a=a_ o/\o.cls=.type "tuple" /\ (∃n,o.data=.seq items n)/\o.dict=b_
theorem tQ.is(x:tQ h a items):PyProof.Rows.IsTup h a items:=let ⟨o,h1,h2,h3,_⟩:=x;⟨o,h1,h2,h3⟩
theorem tQ.lt{h:t_}(x:tQ h a items):a<h.objs.size:=let ⟨_,h1,_⟩:=x;bf h1
theorem tQ.new(h:t_)(items:Array s_):tQ (h.push {cls:=.type "tuple",data:=.seq items 0}) h.objs.size items:=⟨_,bo _ rfl,rfl,⟨_,rfl⟩,rfl⟩
section
variable(P:ub)(w:ua)
def dS(H:Hp)(h:t_)(a:t7):HO->Prop
 |.lst xs=>xs.length<=bp/\∃(its:ue s_)(n:Nat),aR xs its/\h.get? a=a_ {cls:=.type "list",data:=.seq its.toArray n}
 |.tup xs=>xs.length<=bp/\∃its:ue s_,aR xs its/\tQ h a its.toArray
 |.dK kvs=>kvs.length<=bp/\(a == j7)=false/\∃vs,KV kvs vs/\h.DictOf (dC P w) a vs
 | .dT kvs=>kvs.length<=bp/\(a == j7)=false/\∃ xs:ue (ue Key×t7×s_),
   Paired (λ(p:ue Key×V)(q:ue Key×t7×s_)=>p.1=q.1/\H q.2.1=a_ (.tup (p.1.map kV))/\RelV p.2 q.2.2) kvs xs/\
   ∃o es ep,h.get? a=a_ o/\o.ExactDict/\o.data=.dict es ep/\es.toList=xs.map (entryOfKey (tupleKind (dC P w)))/\(xs.map (·.1)).Nodup
 |.set S n=>h.SetOf (intKind P w) a S n
 | .ins C dx fs=>H dx=a_ (.own a)/\fs.length<=1000/\dx≠a/\h.get? a=a_ (lj C dx)/\
   ∃mA,h.Ns1 dx mA/\(∀f,pN (fs.lookup f) (mA f))/\PySem.Within mA (fs.map (·.1))
 |.own _=>∃o,h.get? a=a_ o
 |.xd fs=>∃mA,h.Ns1 a mA/\∀f,pN (fs.lookup f) (mA f)
 |.rng lo hi=>∃t u v,h.get? a=a_ {cls:=.type "range",data:=.fields #[.int lo t,.int hi u,.int 1 v]}
 |.frz o u=>h.get? a=a_ o/\dS H h a u
 |.tbl ps=>h.get? a=a_ {cls:=.none,data:=.fields ps}
 |.met f x=>h.get? a=a_ (PySem.W.methodObj (.ref f) (.ref x))
 |.ext φ=>φ h/\(∃o,h.get? a=a_ o)/\∀h1 h2:t_,φ h1->(∀o,h1.get? a=a_ o->h2.get? a=a_ o)->φ h2
def HOk(H:Hp)(h:t_):Prop:=∀a o,H a=a_ o->dS P w H h a o
end
section
variable{P:ub}{w:ua}{H H':Hp}{h h':t_}{a:t7}{o:HO}
theorem dS.lt(x:dS P w H h a o):a<h.objs.size:=by
 cases o with
 |lst xs=>let⟨_,_,_,_,e⟩:=x;exact bf e
 |tup xs=>let⟨_,_,_,p⟩:=x;exact tQ.lt p
 |dK kvs=>let⟨_,_,_,_,o,_,_,e,_⟩:=x;exact bf e
 |dT kvs=>let⟨_,_,_,_,o,_,_,e,_⟩:=x;exact bf e
 |set S n=>let⟨o,_,_,_,e,_⟩:=x;exact bf e
 |ins C dx fs=>let⟨_,_,_,e,_⟩:=x;exact bf e
 |own y=>let⟨_,e⟩:=x;exact bf e
 |xd fs=>let⟨_,⟨_,_,_,e,_⟩,_⟩:=x;exact bf e
 |rng lo hi=>let⟨_,_,_,e⟩:=x;exact bf e
 |frz ob u=>let⟨e,_⟩:=x;exact bf e
 |tbl ps=>exact bf (show h.get? a=a_ _ from x)
 |met f y=>exact bf (show h.get? a=a_ _ from x)
 |ext φ=>let⟨_,⟨_,e⟩,_⟩:=x;exact bf e
theorem Paired.mapP{α β:Type}{F G:α->β->Prop}:∀{l₁:ue α}{l₂:ue β},Paired F l₁ l₂->(∀a b,F a b->G a b)->Paired G l₁ l₂
 |_,_,.nil,_=>.nil
 |_,_,.cons r t,f=>.cons (f _ _ r) (Paired.mapP t f)
theorem dS.stay(x:dS P w H h a o)(k:∀b u,(b=a\/H b=a_ (.own a))->h.get? b=a_ u->h'.get? b=a_ u)
  (ho:∀b,H b=a_ (.own a)->H' b=a_ (.own a)) (ht:∀b xs,H b=a_ (.tup xs)->H' b=a_ (.tup xs)):dS P w H' h' a o:=by
 induction o with
 |lst xs=>let⟨z,its,n,r,e⟩:=x;exact⟨z,its,n,r,k _ _ (.inl rfl) e⟩
 |tup xs=>let⟨z,its,r,ob,e,c⟩:=x;exact⟨z,its,r,ob,k _ _ (.inl rfl) e,c⟩
 |dK kvs=>let⟨z,y,vs,r,ob,es,ep,e,c⟩:=x;exact⟨z,y,vs,r,ob,es,ep,k _ _ (.inl rfl) e,c⟩
 |dT kvs=>let⟨z,y,xs,r,ob,es,ep,e,c⟩:=x;exact⟨z,y,xs,Paired.mapP r λp q z=>⟨z.1,ht _ _ z.2.1,z.2.2⟩,ob,es,ep,k _ _ (.inl rfl) e,c⟩
 |set S n=>let⟨ob,es,ep,t,e,c⟩:=x;exact⟨ob,es,ep,t,k _ _ (.inl rfl) e,c⟩
 |ins C dx fs=>let⟨d,z,ne,e,mA,⟨od,es,ep,e2,c⟩,r⟩:=x;exact⟨ho _ d,z,ne,k _ _ (.inl rfl) e,mA,⟨od,es,ep,k _ _ (.inr d) e2,c⟩,r⟩
 |own y=>let⟨ob,e⟩:=x;exact⟨ob,k _ _ (.inl rfl) e⟩
 |xd fs=>let⟨mA,⟨od,es,ep,e,c⟩,r⟩:=x;exact⟨mA,⟨od,es,ep,k _ _ (.inl rfl) e,c⟩,r⟩
 |rng lo hi=>let⟨t,u,v,e⟩:=x;exact⟨t,u,v,k _ _ (.inl rfl) e⟩
 |frz ob u ih=>let⟨e,q⟩:=x;exact⟨k _ _ (.inl rfl) e,ih q⟩
 |tbl ps=>
  have e:h.get? a=a_ {cls:=.none,data:=.fields ps}:=x
  show h'.get? a=a_ {cls:=.none,data:=.fields ps}
  exact k a _ (.inl rfl) e
 |met f y=>
  have e:h.get? a=a_ (PySem.W.methodObj (.ref f) (.ref y)):=x
  show h'.get? a=a_ (PySem.W.methodObj (.ref f) (.ref y))
  exact k a _ (.inl rfl) e
 |ext φ=>let⟨p,⟨o,e⟩,st⟩:=x;exact⟨st _ _ p λo q=>k _ _ (.inl rfl) q,⟨o,k _ _ (.inl rfl) e⟩,st⟩
theorem HOk.lt(x:HOk P w H h)(e:H a=a_ o):a<h.objs.size:=(x a o e).lt
theorem HOk.fresh(x:HOk P w H h)(e:h.objs.size<=a):H a=b_:=by
 cases q:H a with
 |none=>rfl
 |some u=>exact absurd (c9 (x.lt q) e) (i6 _)
theorem HOk.kept(x:HOk P w H h)(k:∀b u,h.get? b=a_ u->h'.get? b=a_ u):HOk P w H h':=λa o e=>(x a o e).stay (λb u _ q=>k b u q) (λ_ q=>q) λ_ _ q=>q
theorem HOk.laid(x:HOk P w H h)(k:∀b u,h.get? b=a_ u->h'.get? b=a_ u)(hp:h.objs.size<=a)(new:dS P w (upd H a o) h' a o):HOk P w (upd H a o) h':=λb u e=>by
 have hn:=x.fresh hp;by_cases hb:b=a
 ·subst hb;rw[bE]at e;cases e;exact new
 ·rw[aV hb]at e;exact(x b u e).stay (λc v _ q=>k c v q) (λc q=>by rw[aV (dY q hn)];exact q) λc xs q=>by rw[aV (dY q hn)];exact q
end
def Rd(H:Hp)(a:t7)(u:HO):Prop:=H a=a_ u\/∃o,H a=a_ (.frz o u)
theorem Rd.ok(r:Rd H a u)(x:HOk P w H h):dS P w H h a u:=by
 rcases r with r|⟨o,r⟩
 ·exact x a u r
 ·let⟨_,q⟩:=x a _ r;exact q
def Mut:uf HO->Prop
 |some (.lst _)=>True
 |some (.dK _)=>True
 |some (.dT _)=>True
 |some (.set _ _)=>True
 |some (.ins _ _ _)=>True
 |some (.ext _)=>True
 |_=>False
section
variable{P:ub}{w:ua}{H:Hp}{h h':t_}{x e:t7}{o':HO}
theorem HOk.write(ok:HOk P w H h)(mu:Mut (H x))(he:e=x\/H e=a_ (.own x))(k:∀b u,b≠e->h.get? b=a_ u->h'.get? b=a_ u)(heo:∃u,h'.get? e=a_ u)
  (new:dS P w (upd H x o') h' x o'):HOk P w (upd H x o') h':=λb u q=>by
 have nown:∀c y,H c=a_ (.own y)->c≠x:=λc y r z=>by subst z;rw[r]at mu;exact mu
 have ntup:∀c xs,H c=a_ (.tup xs)->c≠x:=λc xs r z=>by subst z;rw[r]at mu;exact mu
 by_cases hb:b=x
 ·subst hb;rw[bE]at q;cases q;exact new
 ·rw[aV hb]at q;by_cases hbe:b=e
  ·have q':H b=a_ (.own x):=by
    rcases he with z|z
    ·exact absurd (hbe.trans z) hb
    ·rw[hbe];exact z
   rw[q]at q';cases q';let⟨v,hv⟩:=heo;exact⟨v,by rw[hbe];exact hv⟩
  ·refine(ok b u q).stay (λc v hc r=>k c v ?_ r) (λc r=>by rw[aV (nown c b r)];exact r) λc xs r=>by rw[aV (ntup c xs r)];exact r
   rcases hc with rfl|hc
   ·exact hbe
   ·rintro rfl;rcases he with z|z
    ·exact nown c b hc z
    ·rw[hc]at z;cases z;exact hb rfl
end
structure Un(fs ex:ue t7)(H H':Hp)(h h':t_):Prop where
 keep:∀b o,h.get? b=some o->H b=none->b∉fs->b∉ex->h'.get? b=some o
 slot:∀b o,h.get? b=some o->H b=none->b∈fs->b∉ex->∃sl,h'.get? b=some { o with slots:=sl}
 free:∀b o,h.get? b=some o->H b=none->b∉ex->H' b=none
 there:∀b o,h.get? b=some o->b∉ex->∃o',h'.get? b=some o'
 tups:∀b xs,H b=some (.tup xs)->H' b=some (.tup xs)
 frzs:∀b o u,H b=some (.frz o u)->H' b=some (.frz o u)
 tbls:∀b ps,H b=some (.tbl ps)->∃more,H' b=some (.tbl (ps++more))
section
variable{fs fs' ex ex':ue t7}{H H1 H2:Hp}{h h1 h2 h':t_}{a x e:t7}{o:HO}
theorem Un.any(u:Un fs ex H H1 h h1)(q:h.get? b=a_ ob)(n:H b=b_)(hx:b∉ex):∃sl,h1.get? b=a_ { ob with slots:=sl}:=by
 by_cases hb:b∈fs
 ·exact u.slot b ob q n hb hx
 ·exact⟨ob.slots,u.keep b ob q n hb hx⟩
theorem Un.kept(k:∀b u,h.get? b=a_ u->h'.get? b=a_ u):Un fs ex H H h h':=⟨λb ob q _ _ _=>k b ob q,λb ob q _ _ _=>⟨ob.slots,k b ob q⟩,λ_ _ _ n _=>n,λb ob q _=>⟨ob,k b ob q⟩,λ_ _ q=>q,λ_ _ _ q=>q,λ_ ps q=>⟨#[],by rw[q];simp⟩⟩
theorem Un.refl:Un fs ex H H h h:=Un.kept λ_ _ q=>q
theorem Un.laid(k:∀b u,h.get? b=a_ u->h'.get? b=a_ u)(hp:h.objs.size<=a)(hn:H a=b_):Un fs ex H (upd H a o) h h' where
 keep:=λb u q _ _ _=>k b u q
 slot:=λb u q _ _ _=>⟨u.slots,k b u q⟩
 free:=λb u q n _=>by rw[aV (bu (c9 (bf q) hp))];exact n
 there:=λb u q _=>⟨u,k b u q⟩
 tups:=λb xs q=>by rw[aV (dY q hn)];exact q
 frzs:=λb u xs q=>by rw[aV (dY q hn)];exact q
 tbls:=λb ps q=>⟨#[],by rw[aV (dY q hn),q];simp⟩
theorem Un.write(mu:Mut (H x))(he:e=x\/H e=a_ (.own x))(k:∀b u,b≠e->h.get? b=a_ u->h'.get? b=a_ u)(heo:∃u,h'.get? e=a_ u):Un fs ex H (upd H x o) h h':=by
 have hx:∀b,H b=b_->b≠x:=λb n z=>by subst z;rw[n]at mu;exact mu
 have hb:∀b,H b=b_->b≠e:=λb n z=>by
  subst z;rcases he with r|r
  ·exact hx b n r
  ·rw[n]at r;cases r
 have hm:∀b u,H b=a_ u->¬ Mut (a_ u)->b≠x:=λb u q nm z=>by subst z;rw[q]at mu;exact nm mu
 refine⟨λb u q n _ _=>k b u (hb b n) q,λb u q n _ _=>⟨u.slots,k b u (hb b n) q⟩,λb u q n _=>by rw[aV (hx b n)];exact n,λb u q _=>?_,
  λb xs q=>by rw[aV (hm b _ q λz=>z)];exact q,λb u xs q=>by rw[aV (hm b _ q λz=>z)];exact q,λb ps q=>⟨#[],by rw[aV (hm b _ q λz=>z),q];simp⟩⟩
 by_cases hbe:b=e
 ·subst hbe;exact heo
 ·exact⟨u,k b u hbe q⟩
end
def trk(h:t_)(H:Hp):ue t7:=(fg h.objs.size).filter λa=>(H a).isSome
def BQ(h:t_)(H:Hp):t_:=PySem.W.hideAll h (trk h H)
def J'(h:t_)(H:Hp):(BQ h H).objs.size=h.objs.size:=PySem.W.hideAll_size _ _
def KL{h:t_}(e:h.get? b=a_ o)(n:H b=b_):(BQ h H).get? b=a_ o:=PySem.W.hideAll_get _ e λhm=>by have q:(H b).isSome=true:=(jt.mp hm).2;rw[n]at q;simp at q
def OB{h:t_}(e:(BQ h H).get? b=a_ o):h.get? b=a_ o/\H b=b_:=by
 have e':h.get? b=a_ o:=PySem.W.of_hideAll (trk h H) e;refine⟨e',?_⟩;cases q:H b with
 |none=>rfl
 |some x=>have hm:b∈trk h H:=jt.mpr ⟨qt.mpr (bf e'),by simp[q]⟩;have z:(BQ h H).get? b=b_:=PySem.W.hideAll_none (trk h H) hm;rw[z]at e;cases e
def OC(g h:t_)(L:t7):g_ 0:=(fg h.objs.size).filterMap λa=>if a=L\/(g.get? a).isSome=true then b_ else(h.get? a).map λo=>(a,o)
def rest(g h:t_)(L d:t7):g_ 0:=(OC g h L).filter λp=>decide (p.1≠d)
structure Mod(K:ag)(mg:o_ 0)(base:t_):Prop where
 kin:K.In base
 glob:base.Ns fb mg
 blt:∃mb,base.Ns builtinsNs mb/\∀x:Str,x≠"__name__" -> mb x=qc x
 nolimit:base.NoLimit
structure Cx where
 prog:ub
 w:ua
 K:ag
 mg:o_ 0
 base:t_
 A:t9
 N:ue Str
 s₀:tw
 H₀:Hp
 env:Env
 outer:ue Env
 stack:ue Env
 ex:ue t7
 fn:Str->Bool
 calm:Bool
 pn:g_ 0
 xe:f_ 0
def frs(l:ue Env):ue t7:=l.filterMap (·.frame)
abbrev Cx.fs(X:Cx):ue t7:=frs X.outer
def Vis(sc:Scope)(x:Str):Prop:=sc.names.lookup x=a_ .local\/sc.names.lookup x=a_ .cell\/sc.names.lookup x=a_ .free
def Loc(sc:Scope)(x:Str):Prop:=sc.names.lookup x=a_ .local\/sc.names.lookup x=a_ .cell
def Look(env:Env)(h:t_)(m:o_ 0)(x:Str)(u:s_):Prop:=(env.kindOf x=a_ .local/\m x=a_ u)\/((env.kindOf x=a_ .cell\/env.kindOf x=a_ .free)/\∃c,env.cells.lookup x=a_ c/\h.IsCell c (a_ u))
structure Cx.Ok(X:Cx):Prop where
 mod:Mod X.K X.mg X.base
 kind:X.env.scope.kind=.function
 glob:X.env.globals=fb
 blt:X.env.builtins=builtinsNs
 above:X.s₀.heap.objs.size<=X.env.locals
 inj:∀x y c,X.env.cells.lookup x=some c->X.env.cells.lookup y=some c->x=y
 has:∀x,(X.env.kindOf x=some .cell\/X.env.kindOf x=some .free)->∃c,X.env.cells.lookup x=some c
 cab:∀x c,X.fn x=true->X.env.cells.lookup x=some c->X.s₀.heap.objs.size<=c
 hd:X.calm=true->X.A.handled=none
 frames:X.A.frames=some X.stack
 stk:X.stack=X.outer\/(X.stack=X.env::X.outer/\X.env.frame=some X.env.locals)
 exf:∀b∈X.ex,b≠X.env.locals/\∀x c,X.env.cells.lookup x=some c->c≠b
 bs:∀b o,X.base.get? b=some o->X.s₀.heap.get? b=some o/\X.H₀ b=none
 bsz:X.base.objs.size<=X.s₀.heap.objs.size
 noex:∀b o,X.base.get? b=some o->b∉X.ex
 exfs:∀b∈X.ex,b∉X.fs
 funs:X.s₀.heap.FunFrames X.base X.outer
 frf:∀b∈X.fs,X.H₀ b=none
structure Inv(X:Cx)(pins:g_ 0)(σ:ue (uf V))(H:Hp)(s:tw):Prop where
 ok:X.Ok
 os:s.os=X.s₀.os
 bare:AllBare s.gens
 base:Un X.fs X.ex X.H₀ H X.s₀.heap s.heap
 loc:∃m,s.heap.Ns X.env.locals m/\∀(i:Nat)(x:Str)(v:V),X.N[i]?=some x->σ[i]?=some (some v)->Vis X.env.scope x->∃u,RelV v u/\Look X.env s.heap m x u
 cell:∀x c,X.env.cells.lookup x=some c->∃v,s.heap.IsCell c v
 free:H X.env.locals=none
 freeC:∀x c,X.env.cells.lookup x=some c->H c=none
 pin:∀p∈X.pn++pins,s.heap.get? p.1=some p.2/\H p.1=none/\p.1≠X.env.locals/\p.1∉X.fs/\∀v,p.2.data≠.cell v
 hok:HOk X.prog X.w H s.heap
 len:σ.length=X.N.length
section
variable{X:Cx}{pins:g_ 0}{σ:ue (uf V)}{H H':Hp}{s:tw}{h':t_}
theorem Cx.Ok.nofr(ok:X.Ok)(e:X.base.get? b=a_ o):b∉X.fs:=λhb=>by have:=(ok.funs.mem hb).1;rw[e]at this;cases this
theorem Inv.bs(I:Inv X pins σ H s):∀b o,X.base.get? b=a_ o->s.heap.get? b=a_ o/\H b=b_:=λb o e=>⟨I.base.keep b o (I.ok.bs b o e).1 (I.ok.bs b o e).2 (I.ok.nofr e) (I.ok.noex b o e),I.base.free b o (I.ok.bs b o e).1 (I.ok.bs b o e).2 (I.ok.noex b o e)⟩
theorem Inv.bk(I:Inv X pins σ H s):∀b o,X.base.get? b=a_ o->s.heap.get? b=a_ o:=λb o e=>(I.bs b o e).1
theorem Inv.mod(I:Inv X pins σ H s):Mod X.K X.mg X.base:=I.ok.mod
theorem Inv.kIn(I:Inv X pins σ H s):X.K.In s.heap:=I.ok.mod.kin.keeps I.bk
theorem Inv.lt(I:Inv X pins σ H s):X.env.locals<(e_ s):=let ⟨_,hn,_⟩:=I.loc;hn.lt
theorem Inv.sz(I:Inv X pins σ H s):X.s₀.heap.objs.size<=(e_ s):=fv I.ok.above (oi I.lt)
theorem Inv.nofs(I:Inv X pins σ H s){a:t7}(h:(e_ s)<=a):a∉X.fs:=λhb=>by let⟨_,o,ho,_⟩:=I.ok.funs.mem hb;exact absurd (c9 (bf ho) (fv I.sz h)) (i6 _)
theorem Inv.cne(I:Inv X pins σ H s):∀x c,X.env.cells.lookup x=a_ c->c≠X.env.locals:=λx c e z=>by let⟨v,o,ho,hd⟩:=I.cell x c e;let⟨m,⟨o',es,ep,ho',hd',_⟩,_⟩:=I.loc;rw[z,ho']at ho;cases ho;rw[hd']at hd;cases hd
theorem Inv.funs(I:Inv X pins σ H s):s.heap.FunFrames X.base X.outer:=by
 have all:∀(l:ue Env),(∀b∈frs l,b∈X.fs)->X.s₀.heap.FunFrames X.base l->s.heap.FunFrames X.base l:=by
  intro l
  induction l with
  |nil=>intro _ _;trivial
  |cons env r ih=>intro hs hl;let⟨hk,⟨L,o,hf,hn,ho,hd⟩,hr⟩:=hl;have hL:L∈X.fs:=hs L (by unfold frs;rw[om,hf];exact aw);let⟨sl,e⟩:=I.base.slot L o ho (I.ok.frf L hL) hL λz=>I.ok.exfs L z hL;exact⟨hk,⟨L,_,hf,hn,e,hd⟩,ih (λb hb=>hs b (by unfold frs;rw[om,hf];exact aj _ hb)) hr⟩
 exact all X.outer (λ_ hb=>hb) I.ok.funs
theorem Inv.stack(I:Inv X pins σ H s):s.heap.FunFrames X.base X.stack:=by
 rcases I.ok.stk with e|⟨e,hf⟩
 ·rw[e];exact I.funs
 ·rw[e];let⟨m,hn,_⟩:=I.loc;refine .cons (by rw[I.ok.kind];decide) hf hn ?_ I.funs;exact Heap.get?_none_of_le (fv I.ok.bsz I.ok.above)
theorem Inv.stkSub(I:Inv X pins σ H s):∀b∈frs X.stack,b∈X.env.locals::X.fs:=λb hb=>by
 rcases I.ok.stk with e|⟨e,hf⟩
 ·rw[e]at hb;exact aj _ hb
 ·rw[e]at hb;unfold frs at hb;rw[om,hf]at hb;exact hb
theorem Inv.stkFree(I:Inv X pins σ H s):∀b∈frs X.stack,H b=b_:=λb hb=>by
 rcases bx.mp (I.stkSub b hb) with e|hb
 ·rw[e];exact I.free
 ·let⟨_,o,ho,_⟩:=I.ok.funs.mem hb;exact I.base.free b o ho (I.ok.frf b hb) λz=>I.ok.exfs b z hb
theorem Inv.step{g':Array GenState}{t':Nat}{d':Drawn}{ch:ue t7}(I:Inv X pins σ H s)
  (hch:∀b∈ch,(b∈X.ex\/X.s₀.heap.objs.size<=b)/\b≠X.env.locals/\(∀x c,X.env.cells.lookup x=a_ c->c≠b)/\∀p∈X.pn++pins,p.1≠b)
  (keep:∀b o,b≠X.env.locals->b∉X.fs->b∉ch->s.heap.get? b=a_ o->H b=b_->h'.get? b=a_ o)
  (slot:∀b o,b≠X.env.locals->b∈X.fs->b∉ch->s.heap.get? b=a_ o->H b=b_->∃sl,h'.get? b=a_ { o with slots:=sl}) (free:∀b o,b∉ch->s.heap.get? b=a_ o->H b=b_->H' b=b_)
  (there:∀b o,b∉ch->s.heap.get? b=a_ o->∃o',h'.get? b=a_ o')
  (tups:∀b xs,H b=a_ (.tup xs)->H' b=a_ (.tup xs)) (frzs:∀b o u,H b=a_ (.frz o u)->H' b=a_ (.frz o u)) (tbls:∀b ps,H b=a_ (.tbl ps)->∃more,H' b=a_ (.tbl (ps++more)))
  (ns:∀m,s.heap.Ns X.env.locals m->h'.Ns X.env.locals m) (hok:HOk X.prog X.w H' h') (hg:AllBare g'):
  Inv X pins σ H' {s with heap:=h',gens:=g',drawn:=d',toks:=t'}:=by
 have neL:∀b o,X.s₀.heap.get? b=a_ o->b≠X.env.locals:=λb o e=>bu (c9 (bf e) I.ok.above);have neC:∀b o,X.s₀.heap.get? b=a_ o->b∉X.ex->b∉ch:=λb o e hx hb=>by
  rcases(hch b hb).1 with z|z
  ·exact hx z
  ·exact absurd (c9 (bf e) z) (i6 _)
 have cellK:∀x c,X.env.cells.lookup x=a_ c->∀v,s.heap.IsCell c v->h'.IsCell c v:=λx c e v ⟨o,ho,hd⟩=>by
  have nch:c∉ch:=λz=>(hch c z).2.2.1 x c e rfl;by_cases hc:c∈X.fs
  ·let⟨sl,q⟩:=slot c o (I.cne x c e) hc nch ho (I.freeC x c e);exact⟨_,q,hd⟩
  ·exact⟨o,keep c o (I.cne x c e) hc nch ho (I.freeC x c e),hd⟩
 refine⟨I.ok,I.os,hg,⟨λb o e n hb hx=>?_,λb o e n hb hx=>?_,λb o e n hx=>?_,λb o e hx=>?_,λb xs e=>tups b xs (I.base.tups b xs e),λb o xs e=>frzs b o xs (I.base.frzs b o xs e),λb ps e=>?_⟩,?_,λx c e=>?_,?_,λx c e=>?_,λp hp=>?_,hok,I.len⟩
 ·exact keep b o (neL b o e) hb (neC b o e hx) (I.base.keep b o e n hb hx) (I.base.free b o e n hx)
 ·let⟨sl,e1⟩:=I.base.slot b o e n hb hx;let⟨sl',e2⟩:=slot b _ (neL b o e) hb (neC b o e hx) e1 (I.base.free b o e n hx);exact⟨sl',e2⟩
 ·let⟨o',e1⟩:=I.base.there b o e hx;exact free b o' (neC b o e hx) e1 (I.base.free b o e n hx)
 ·let⟨o',e1⟩:=I.base.there b o e hx;exact there b o' (neC b o e hx) e1
 ·let⟨m1,e1⟩:=I.base.tbls b ps e;let⟨m2,e2⟩:=tbls b _ e1;exact⟨m1++m2,by rw[e2,Array.append_assoc]⟩
 ·let⟨m,hn,hl⟩:=I.loc;refine⟨m,ns m hn,λi x v e1 e2 e3=>?_⟩;let⟨u,r,l⟩:=hl i x v e1 e2 e3;refine⟨u,r,?_⟩;rcases l with l|⟨k,c,e,z⟩
  ·exact .inl l
  ·exact .inr ⟨k,c,e,cellK x c e _ z⟩
 ·let⟨v,z⟩:=I.cell x c e;exact⟨v,cellK x c e v z⟩
 ·let⟨m,⟨o,_,_,ho,_⟩,_⟩:=I.loc;exact free _ o (λz=>(hch _ z).2.1 rfl) ho I.free
 ·let⟨v,o,ho,hd⟩:=I.cell x c e;exact free c o (λz=>(hch c z).2.2.1 x c e rfl) ho (I.freeC x c e)
 ·let⟨e,n,ne,nf,d⟩:=I.pin p hp;have nch:p.1∉ch:=λz=>(hch p.1 z).2.2.2 p hp rfl;exact⟨keep p.1 p.2 ne nf nch e n,free p.1 p.2 nch e n,ne,nf,d⟩
theorem Inv.un{t':Nat}(I:Inv X pins σ H s)(u:Un X.fs [] H H' s.heap h')(hok:HOk X.prog X.w H' h'):Inv X pins σ H' {s with heap:=h',toks:=t'}:=by let⟨m,⟨o,es,ep,ho,r⟩,_⟩:=id I.loc;let⟨sl,hL⟩:=u.any ho I.free (by simp);exact I.step (g':=s.gens) (d':=s.drawn) (ch:=[]) (λ_ z=>nomatch z) (λb o _ hb _ e n=>u.keep b o e n hb (by simp)) (λb o _ hb _ e n=>u.slot b o e n hb (by simp)) (λb o _ e n=>u.free b o e n (by simp)) (λb o _ e=>u.there b o e (by simp)) u.tups u.frzs u.tbls (λm' hm=>by let⟨o',es',ep',ho',r'⟩:=hm;rw[ho]at ho';cases ho';exact⟨_,es',ep',hL,r'⟩) hok I.bare
theorem Inv.call{g':Array GenState}{t':Nat}{d':Drawn}{ch:ue t7}(I:Inv X pins σ H s)(u:Un (frs X.stack) ch H H' s.heap h')(hok:HOk X.prog X.w H' h')(hg:AllBare g')
  (hch:∀b∈ch,(b∈X.ex\/X.s₀.heap.objs.size<=b)/\b≠X.env.locals/\(∀x c,X.env.cells.lookup x=a_ c->c≠b)/\∀p∈X.pn++pins,p.1≠b):
  Inv X pins σ H' {s with heap:=h',gens:=g',drawn:=d',toks:=t'}:=by
 let⟨m,⟨o,es,ep,ho,r⟩,_⟩:=id I.loc;let⟨sl,hL⟩:=u.any ho I.free λz=>(hch _ z).2.1 rfl;exact I.step (ch:=ch) hch (λb o hL hb hc e n=>u.keep b o e n (λz=>(bx.mp (I.stkSub b z)).elim hL hb) hc) (λb o _ _ hc e n=>u.any e n hc) (λb o hc e n=>u.free b o e n hc) (λb o hc e=>u.there b o e hc) u.tups u.frzs u.tbls (λm' hm=>by let⟨o',es',ep',ho',r'⟩:=hm;rw[ho]at ho';cases ho';exact⟨_,es',ep',hL,r'⟩) hok hg
theorem Inv.turned{t':Nat}{it:t7}(I:Inv X pins σ H s)(k:∀b o,b≠it->s.heap.get? b=a_ o->h'.get? b=a_ o)(hn:H it=b_)(hL:it≠X.env.locals)
  (h1:it∈X.ex\/X.s₀.heap.objs.size<=it) (h2:∀x c,X.env.cells.lookup x=a_ c->c≠it) (h3:∀p∈X.pn++pins,p.1≠it):Inv X pins σ H {s with heap:=h',toks:=t'}:=by
 have nit:∀b u,H b=a_ u->b≠it:=λb u e z=>by rw[z,hn]at e;cases e
 refine I.step (g':=s.gens) (d':=s.drawn) (ch:=[it]) (λb hb=>?_) (λb o _ _ hc e _=>k b o (λz=>hc (by simp[z])) e) (λb o _ _ hc e _=>⟨o.slots,k b o (λz=>hc (by simp[z])) e⟩) (λ_ _ _ _ n=>n)
  (λb o hc e=>⟨o,k b o (λz=>hc (by simp[z])) e⟩) (λ_ _ e=>e) (λ_ _ _ e=>e) (λb ps e=>⟨#[],by rw[e];simp⟩) (λm hm=>?_) (λb u e=>?_) I.bare
 ·have e:b=it:=by simpa using hb
  subst e;exact⟨h1,hL,h2,h3⟩
 ·let⟨o,es,ep,ho,r⟩:=hm;exact⟨o,es,ep,k _ o (iz hL) ho,r⟩
 ·refine(I.hok b u e).stay (λc v hc q=>k c v ?_ q) (λ_ q=>q) λ_ _ q=>q;rcases hc with z|z
  ·rw[z];exact nit b u e
  ·exact nit c _ z
theorem Inv.tok(I:Inv X pins σ H s)(t:Nat):Inv X pins σ H { s with toks:=t}:=I.un (h':=s.heap) (t':=t) Un.refl I.hok
theorem Inv.kept(I:Inv X pins σ H s)(k:∀b u,s.heap.get? b=a_ u->h'.get? b=a_ u):Inv X pins σ H {s with heap:=h',toks:=t'}:=I.un (Un.kept k) (I.hok.kept k)
theorem Inv.laid{a:t7}{o:HO}{t':Nat}(I:Inv X pins σ H s)(k:∀b u,s.heap.get? b=a_ u->h'.get? b=a_ u)(hp:(e_ s)<=a)(new:dS X.prog X.w (upd H a o) h' a o):
  Inv X pins σ (upd H a o) {s with heap:=h',toks:=t'}:=I.un (Un.laid k hp (I.hok.fresh hp)) (I.hok.laid k hp new)
theorem Inv.write(I:Inv X pins σ H s)(mu:Mut (H x))(he:e=x\/H e=a_ (.own x))(k:∀b u,b≠e->s.heap.get? b=a_ u->h'.get? b=a_ u)(heo:∃u,h'.get? e=a_ u)(new:dS X.prog X.w (upd H x o) h' x o):Inv X pins σ (upd H x o) {s with heap:=h',toks:=t'}:=I.un (Un.write mu he k heo) (I.hok.write mu he k heo new)
theorem Inv.pins_of(I:Inv X pins σ H s)(h:∀p∈pins',s.heap.get? p.1=a_ p.2/\H p.1=b_/\p.1≠X.env.locals/\p.1∉X.fs/\∀v,p.2.data≠.cell v):Inv X pins' σ H s:=⟨I.ok,I.os,I.bare,I.base,I.loc,I.cell,I.free,I.freeC,λp hp=>(ai.mp hp).elim (λz=>I.pin p (b0 _ z)) (h p),I.hok,I.len⟩
def Dx{N:ue Str}(hN:N.Nodup){i j:Nat}{x:Str}(a:N[i]?=a_ x)(b:N[j]?=a_ x):i=j:=by let⟨h1,e1⟩:=ab.mp a;let⟨h2,e2⟩:=ab.mp b;exact(List.getElem_inj hN).mp (e1.trans e2.symm)
def AJ{M:Model}{A:t9}{E:f_ 0}{i:Nat}{x:Str}{v:V}{u:s_}{Q:j_ Unit}(I:Inv X pins σ H s)(hN:X.N.Nodup)(hi:X.N[i]?=a_ x)(hx:Loc X.env.scope x)(r:RelV v u)
  (h:∀s',Inv X pins (σ.set i (a_ v)) H s'->(∃a,mx a s.heap s'.heap/\(a=X.env.locals\/X.env.cells.lookup x=a_ a))->Q () s') (hf:X.fn x=true\/X.env.scope.names.lookup x=a_ .local:=by first|exact .inl rfl|exact .inr rfl|assumption):wpAny M A (storeName X.env x u) Q E s:=by
 let⟨m,hn,hl⟩:=id I.loc;have hcls:(X.env.scope.kind == .class || (X.env.scope.kind == .module&&X.env.locals != X.env.globals))=false:=by rw[I.ok.kind];rfl
 have hiσ:i<σ.length:=by rw[I.len];exact(ab.mp hi).1
 have cne:=I.cne;have tracked:∀{a:t7}{h':t_},(∃o,s.heap.get? a=a_ o/\H a=b_)->mx a s.heap h'->HOk X.prog X.w H h':=λ{a h'} ha hs b ob e=>by
  let⟨_,_,hfree⟩:=ha;refine(I.hok b ob e).stay (λc w' hc q=>(hs.2 c ?_).trans q) (λ_ q=>q) λ_ _ q=>q;rintro rfl;rcases hc with rfl|hc
  ·rw[hfree]at e;cases e
  ·rw[hfree]at hc;cases hc
 rcases hx with hk|hk
 ·refine wpAny_storeName_local hk hn (λh' hn' hs=>?_) hcls;let⟨oL,_,_,hoL,_⟩:=id hn;refine h _ ⟨I.ok,I.os,I.bare,⟨λb o e n hb hx=>?_,λb o e n hb hx=>?_,I.base.free,λb o e hx=>?_,I.base.tups,I.base.frzs,I.base.tbls⟩,⟨_,hn',λj y v' e1 e2 e3=>?_⟩,λy c e=>?_,I.free,I.freeC,λp hp=>?_,tracked ⟨oL,hoL,I.free⟩ hs,l_ I.len⟩ ⟨_,hs,.inl rfl⟩
  ·exact(hs.2 b (bu (c9 (bf e) I.ok.above))).trans (I.base.keep b o e n hb hx)
  ·let⟨sl,e1⟩:=I.base.slot b o e n hb hx;exact⟨sl,(hs.2 b (bu (c9 (bf e) I.ok.above))).trans e1⟩
  ·let⟨o',e1⟩:=I.base.there b o e hx;exact⟨o',(hs.2 b (bu (c9 (bf e) I.ok.above))).trans e1⟩
  ·by_cases hj:j=i
   ·subst hj;rw[hi]at e1;cases e1;rw[j4 hiσ]at e2;cases e2
    exact⟨u,r,.inl ⟨hk,by simp⟩⟩
   ·rw[dr (iz hj)]at e2;let⟨u',r',q⟩:=hl j y v' e1 e2 e3;refine⟨u',r',?_⟩;rcases q with⟨k,e⟩|⟨k,c,e,z⟩
    ·refine .inl ⟨k,?_⟩;have:y≠x:=λe=>hj (Dx hN e1 (e▸hi));simp[this,e]
    ·exact .inr ⟨k,c,e,z.sameBut hs (cne y c e)⟩
  ·let⟨w',z⟩:=I.cell y c e;exact⟨w',z.sameBut hs (cne y c e)⟩
  ·let⟨e,n,ne,nf,d⟩:=I.pin p hp;exact⟨(hs.2 p.1 ne).trans e,n,ne,nf,d⟩
 ·have hfn:X.fn x=true:=by
   rcases hf with z|z
   ·exact z
   ·rw[z]at hk;cases hk
  let⟨c,hc⟩:=I.ok.has x (.inl hk);let⟨w',z⟩:=I.cell x c hc;refine wpAny_storeName_cell I.ok.kind hk hc z (λh' hc' hs=>?_);let⟨oc,hoc,hocd⟩:=id z;refine h {s with heap:=h'} ⟨I.ok,I.os,I.bare,⟨λb o e n hb hx=>?_,λb o e n hb hx=>?_,I.base.free,λb o e hx=>?_,I.base.tups,I.base.frzs,I.base.tbls⟩,⟨m,hn.sameBut hs (iz (cne x c hc)),λj y v' e1 e2 e3=>?_⟩,λy c' e=>?_,I.free,I.freeC,λp hp=>?_,tracked ⟨oc,hoc,I.freeC x c hc⟩ hs,l_ I.len⟩ ⟨c,hs,.inr hc⟩
  ·exact(hs.2 b (bu (c9 (bf e) (I.ok.cab x c hfn hc)))).trans (I.base.keep b o e n hb hx)
  ·let⟨sl,e1⟩:=I.base.slot b o e n hb hx;exact⟨sl,(hs.2 b (bu (c9 (bf e) (I.ok.cab x c hfn hc)))).trans e1⟩
  ·let⟨o',e1⟩:=I.base.there b o e hx;exact⟨o',(hs.2 b (bu (c9 (bf e) (I.ok.cab x c hfn hc)))).trans e1⟩
  ·by_cases hj:j=i
   ·subst hj;rw[hi]at e1;cases e1;rw[j4 hiσ]at e2;cases e2
    exact⟨u,r,.inr ⟨.inl hk,c,hc,hc'⟩⟩
   ·rw[dr (iz hj)]at e2;let⟨u',r',q⟩:=hl j y v' e1 e2 e3;refine⟨u',r',?_⟩;rcases q with q|⟨k,c',e,z'⟩
    ·exact .inl q
    ·refine .inr ⟨k,c',e,z'.sameBut hs ?_⟩;rintro rfl;exact hj (Dx hN e1 (I.ok.inj _ _ _ e hc▸hi))
  ·by_cases hcc:c'=c
   ·subst hcc;exact⟨_,hc'⟩
   ·let⟨w2,z2⟩:=I.cell y c' e;exact⟨w2,z2.sameBut hs hcc⟩
  ·let⟨e,n,ne,nf,d⟩:=I.pin p hp;refine⟨(hs.2 p.1 ?_).trans e,n,ne,nf,d⟩;intro q;rw[q,hoc]at e;have q':oc=p.2:=cy e;exact d w' (by rw[<-q'];exact hocd)
def Dy{E:f_ 0}{Q:j_ Unit}(I:Inv X pins σ H s)(hN:X.N.Nodup)(hi:X.N[i]?=a_ x)(hx:Loc X.env.scope x)(r:RelV v u)(h:∀s',Inv X pins (σ.set i (a_ v)) H s'->Q () s')(hf:X.fn x=true\/X.env.scope.names.lookup x=a_ .local:=by first|exact .inl rfl|exact .inr rfl|assumption):wpAny M A (storeName X.env x u) Q E s:=AJ I hN hi hx r (λs' I' _=>h s' I') hf
theorem Inv.call'{s':tw}(I:Inv X pins σ H s)(ho:s'.os=s.os)(u:Un (frs X.stack) ch H H' s.heap s'.heap)(hok:HOk X.prog X.w H' s'.heap)(hg:AllBare s'.gens)(hch:∀b∈ch,(b∈X.ex\/X.s₀.heap.objs.size<=b)/\b≠X.env.locals/\(∀x c,X.env.cells.lookup x=a_ c->c≠b)/\∀p∈X.pn++pins,p.1≠b):Inv X pins σ H' s':=by let⟨h',g',d',t',o'⟩:=s';have e:o'=s.os:=ho;subst e;exact I.call (g':=g') (t':=t') (d':=d') u hok hg hch
end
abbrev XK:=s_->uf t7->Hp->Prop
abbrev St:=ue (uf V)
abbrev VK:=V->Hp->Prop
abbrev TE:=St->Hp->VK->Prop
abbrev TT:=St->Hp->(Bool->Hp->Prop)->Prop
abbrev TA:=St->Hp->(ue V->Hp->Prop)->Prop
structure Ends where
 nx:St->Hp->Prop
 rt:VK
 bk:St->Hp->Prop:=λ_ _=>False
 ct:St->Hp->Prop:=λ_ _=>False
abbrev TS:=Ends->St->Hp->Prop
def EP(X:Cx)(pins:g_ 0)(σ:St)(Q:VK)(u:s_)(s':tw):Prop:=∃v H',Inv X pins σ H' s'/\RelV v u/\Q v H'
def TP(X:Cx)(pins:g_ 0)(σ:St)(Q:Bool->Hp->Prop)(b:Bool)(s':tw):Prop:=∃H',Inv X pins σ H' s'/\Q b H'
def AP(X:Cx)(pins:g_ 0)(σ:St)(Q:ue V->Hp->Prop)(us:ue s_)(s':tw):Prop:=∃vs H',Inv X pins σ H' s'/\aR vs us/\Q vs H'
def SP(X:Cx)(pins:g_ 0)(D:Ends)(f:Flow)(s':tw):Prop:=
 match f with
 |.next=>∃σ' H',Inv X pins σ' H' s'/\D.nx σ' H'
 |.brk=>∃σ' H',Inv X pins σ' H' s'/\D.bk σ' H'
 |.cont=>∃σ' H',Inv X pins σ' H' s'/\D.ct σ' H'
 |.ret u=>∃v σ' H',Inv X pins σ' H' s'/\RelV v u/\D.rt v H'
def PE(X:Cx)(e:uc)(t:TE):Prop:=
 ∀(pins:g_ 0)(s:tw)(σ:St)(H:Hp)(Q:VK),Inv X pins σ H s->t σ H Q->wpAny (h_ X) X.A (eval e X.env) (EP X pins σ Q) X.xe s
def PT(X:Cx)(e:uc)(t:TT):Prop:=
 ∀(pins:g_ 0)(s:tw)(σ:St)(H:Hp)(Q:Bool->Hp->Prop),Inv X pins σ H s->t σ H Q->wpAny (h_ X) X.A (isTrue e X.env (eval e X.env)) (TP X pins σ Q) X.xe s
def PW(X:Cx)(e:uc)(t:TT):Prop:=
 ∀(whole:Sem s_)(pins:g_ 0)(s:tw)(σ:St)(H:Hp)(Q:Bool->Hp->Prop),Inv X pins σ H s->t σ H Q->wpAny (h_ X) X.A (isTrue e X.env whole) (TP X pins σ Q) X.xe s
theorem PW.pt(h:PW X e t):PT X e t:=h _
def PA(X:Cx)(es:ue uc)(t:TA):Prop:=
 ∀(pos:Pos)(pins:g_ 0)(s:tw)(σ:St)(H:Hp)(Q:ue V->Hp->Prop),Inv X pins σ H s->t σ H Q->wpAny (h_ X) X.A (spliced (backTo pos (da es X.env))) (AP X pins σ Q) X.xe s
def PS(X:Cx)(st:ud)(t:TS):Prop:=
 ∀(pins:g_ 0)(s:tw)(σ:St)(H:Hp)(D:Ends),Inv X pins σ H s->t D σ H->wpAny (h_ X) X.A (exec st X.env) (SP X pins D) X.xe s
def PSs(X:Cx)(st:ue ud)(t:TS):Prop:=
 ∀(pins:g_ 0)(s:tw)(σ:St)(H:Hp)(D:Ends),Inv X pins σ H s->t D σ H->wpAny (h_ X) X.A (execs st X.env) (SP X pins D) X.xe s
def thn{α:Type}{t:Sem α}{Q Q':α->tw->Prop}{M:Model}{A:t9}{E:f_ 0}{s:tw}(h:wpAny M A t Q E s)(hQ:∀a s,Q a s->Q' a s):wpAny M A t Q' E s:=ji h hQ λ_ _ x=>x
section
variable{X:Cx}
def UW(i:Nat):TE:=λσ H Q=>∃v,σ[i]?=a_ (a_ v)/\Q v H
def tC(v:V):TE:=λ_ H Q=>Q v H
def KM{i:Nat}{x:Str}{pos:Pos}(hN:X.N[i]?=a_ x)(hv:Vis X.env.scope x)(hd:(x == ("__debug__" : Str))=false:=by decide)(hcd:(x == ("__classdict__" : Str))=false:=by decide):PE X (.Name x pos) (UW i):=by
 intro pins s σ H Q I h;let⟨v,e,h⟩:=h;let⟨m,hn,hl⟩:=I.loc;let⟨u,r,l⟩:=hl i x v hN e hv;have fin:EP X pins σ Q u s:=⟨v,H,I,r,h⟩;rcases l with⟨hk,hm⟩|⟨hk,c,hc,hcell⟩
 ·exact wpAny_Name (wpAny_loadName_local I.ok.kind hk hn hm fin) hd
 ·rcases hk with hk|hk
  ·exact wpAny_Name (wpAny_loadName_cell I.ok.kind hk hc hcell fin) hd
  ·exact wpAny_Name (wpAny_loadName_free I.ok.kind hk hc hcell fin hcd) hd
def Sh{i j pos}:PE X (.Constant (.int i) j pos) (tC (.int i)):=λ_ _ _ H _ I h=>wpAny_Constant_int ⟨.int i,H,I.tok _,⟨_,rfl⟩,h⟩
def UX{b j pos}:PE X (.Constant (.bool b) j pos) (tC (.bl b)):=λ_ _ _ H _ I h=>Constant_bool ⟨.bl b,H,I,rfl,h⟩
def Si{j pos}:PE X (.Constant .none j pos) (tC .non):=λ_ _ _ H _ I h=>Constant_none ⟨.non,H,I,rfl,h⟩
def Sj{x j pos}:PE X (.Constant (.str x) j pos) (tC (.str x)):=λ_ _ _ H _ I h=>Calls.Constant_str ⟨.str x,H,I.tok _,⟨_,rfl⟩,h⟩
def Gl(X:Cx)(x:Str):Prop:=X.env.kindOf x=a_ .globalImplicit
def BR{E:f_ 0}{pins:g_ 0}{s:tw}{σ:St}{H:Hp}{x:Str}{u:s_}{pos:Pos}{Q:f_ 0}(I:Inv X pins σ H s)(hg:Gl X x)(hm:X.mg x=a_ u)(h:Q u s)
  (hd:(x == ("__debug__" : Str))=false:=by decide):wpAny (h_ X) X.A (eval (.Name x pos) X.env) Q E s:=
 Calls.Name_function_global I.ok.kind hg (Calls.loadGlobal_global (by rw[I.ok.glob];exact I.mod.glob.keeps I.bk) hm h) hd
def tR{E:f_ 0}{pins:g_ 0}{s:tw}{σ:St}{H:Hp}{x:Str}{u:s_}{pos:Pos}{Q:f_ 0}(I:Inv X pins σ H s)(hg:Gl X x)(hm:X.mg x=b_)(hv:qc x=a_ u)(h:Q u s)
  (hn:x≠"__name__" := by decide) (hd:(x == ("__debug__" : Str))=false:=by decide):wpAny (h_ X) X.A (eval (.Name x pos) X.env) Q E s:=by
 let⟨mb,h1,h2⟩:=I.mod.blt;exact Calls.Name_function_global I.ok.kind hg (Calls.loadGlobal_builtin (by rw[I.ok.glob];exact I.mod.glob.keeps I.bk) hm (by rw[I.ok.blt];exact h1.keeps I.bk) ((h2 x hn).trans hv) h) hd
variable{a b:uc}{ta tb:TE}{pos:Pos}
variable{tA tB':TT}{rest:ue uc}
def X5(t u:TT):TT:=λσ H Q=>t σ H λc H1=>if c=true then u σ H1 Q else Q false H1
def tOr(t u:TT):TT:=λσ H Q=>t σ H λc H1=>if c=true then Q true H1 else u σ H1 Q
def X6(t:TT):TT:=λσ H Q=>t σ H λc H1=>Q (!c) H1
def OD(ha:PT X a tA):PW X (.BoolOp .And [a] pos) tA:=by
 intro wh pins s σ H Q I h;refine isTrue_and (thn (ha pins s σ H Q I h) λc s1 e=>?_);cases c with
 |true=>exact isTrue_and_nil e
 |false=>exact e
def Sk(ha:PT X a tA):PW X (.BoolOp .Or [a] pos) tA:=by
 intro wh pins s σ H Q I h;refine isTrue_or (thn (ha pins s σ H Q I h) λc s1 e=>?_);cases c with
 |false=>exact isTrue_or_nil e
 |true=>exact e
def Sl(ha:PT X a tA)(hb:PW X (.BoolOp .And (b::rest) pos) tB'):PW X (.BoolOp .And (a::b::rest) pos) (X5 tA tB'):=by
 intro wh pins s σ H Q I h;refine isTrue_and (thn (ha pins s σ H _ I h) λc s1 ⟨H1,I1,q1⟩=>?_);cases c with
 |true=>exact hb wh pins s1 σ H1 Q I1 q1
 |false=>exact⟨H1,I1,q1⟩
def UY(ha:PT X a tA)(hb:PW X (.BoolOp .Or (b::rest) pos) tB'):PW X (.BoolOp .Or (a::b::rest) pos) (tOr tA tB'):=by
 intro wh pins s σ H Q I h;refine isTrue_or (thn (ha pins s σ H _ I h) λc s1 ⟨H1,I1,q1⟩=>?_);cases c with
 |true=>exact⟨H1,I1,q1⟩
 |false=>exact hb wh pins s1 σ H1 Q I1 q1
def Sm(ha:PT X a tA):PT X (.UnaryOp .Not a pos) (X6 tA):=by intro pins s σ H Q I h;exact isTrue_not (ha pins s σ H (λc H1=>Q (!c) H1) I h)
end
def SqL(K:ag)(H:Hp)(a:t7)(xs:ue V):Prop:=
 Rd H a (.lst xs)\/
  ∃(o:Obj)(its:Array s_)(n:Nat),K.lookup a=a_ o/\o.cls=.type "list" /\ o.dict=b_/\o.data=.seq its n/\its.size<=bp/\aR xs its.toList
def SqT(K:ag)(H:Hp)(a:t7)(xs:ue V):Prop:=
 Rd H a (.tup xs)\/
  ∃(o:Obj)(its:Array s_)(n:Nat),K.lookup a=a_ o/\o.cls=.type "tuple" /\ o.data=.seq its n/\its.size<=bp/\aR xs its.toList/\o.dict=b_
def X7:s_->uf V
 |.none=>a_ .non
 |.bool b=>a_ (.bl b)
 |.int i _=>d_ i
 |.str x _=>a_ (.str x)
 |.bytes b _=>a_ (.byt b)
 |.float b _=>a_ (.flt b)
 |.ref a=>c_ a
 |.type n=>a_ (.ty n)
 |_=>b_
theorem RelV.abs(r:RelV x u):X7 u=a_ x:=by
 cases x with
 |non=>cases r;rfl
 |bl _=>cases r;rfl
 |int _=>let⟨t,rfl⟩:=r;rfl
 |str _=>let⟨t,rfl⟩:=r;rfl
 |byt _=>let⟨t,rfl⟩:=r;rfl
 |flt _=>let⟨t,rfl⟩:=r;rfl
 |ref _=>cases r;rfl
 |ty _=>cases r;rfl
theorem RelV.inj(r:RelV x u)(q:RelV y u):x=y:=cy (r.abs.symm.trans q.abs)
theorem aR.inj:∀{xs ys:ue V}{us:ue s_},aR xs us->aR ys us->xs=ys
 |_,_,_,.nil,.nil=>rfl
 |_,_,_,.cons r t,.cons r' t'=>by rw[r.inj r',aR.inj t t']
section
variable{X:Cx}{pins:g_ 0}{σ:St}{H:Hp}{s:tw}{a:t7}{xs ys:ue V}
theorem SqL.of{K:ag}(h:H a=a_ (.lst xs)):SqL K H a xs:=.inl (.inl h)
theorem SqT.of{K:ag}(h:H a=a_ (.tup xs)):SqT K H a xs:=.inl (.inl h)
theorem Inv.list(I:Inv X pins σ H s)(h:SqL X.K H a xs):∃its:ue s_,aR xs its/\PlainL s.heap a its.toArray/\xs.length<=bp:=by
 rcases h with h|⟨o,its,n,hk,hc,hd,hs,hz,r⟩
 ·let⟨z,its,n,r,e⟩:=h.ok I.hok;exact⟨its,r,⟨_,n,e,rfl,rfl,rfl⟩,z⟩
 ·refine⟨its.toList,r,⟨o,n,I.kIn a o hk,hc,hd,l_ hs⟩,?_⟩;have e:=r.length;simp only[oq]at e;omega
theorem Inv.tuple(I:Inv X pins σ H s)(h:SqT X.K H a xs):∃its:ue s_,aR xs its/\IsTup s.heap a its.toArray/\xs.length<=bp:=by
 rcases h with h|⟨o,its,n,hk,hc,hs,hz,r,_⟩
 ·let⟨z,its,r,p⟩:=h.ok I.hok;exact⟨its,r,p.is,z⟩
 ·refine⟨its.toList,r,⟨o,I.kIn a o hk,hc,n,l_ hs⟩,?_⟩;have e:=r.length;simp only[oq]at e;omega
theorem Inv.list_inj(I:Inv X pins σ H s)(h:SqL X.K H a xs)(h':SqL X.K H a ys):xs=ys:=by
 let⟨its,r,⟨o,n,e,_,_,d⟩,_⟩:=I.list h;let⟨its',r',⟨o',n',e',_,_,d'⟩,_⟩:=I.list h';rw[e]at e';cases e';rw[d]at d';injection d' with d1 _;have:its=its':=by simpa using congrArg Array.toList d1
 subst this;exact r.inj r'
theorem Inv.tuple_inj(I:Inv X pins σ H s)(h:SqT X.K H a xs)(h':SqT X.K H a ys):xs=ys:=by
 let⟨its,r,⟨o,e,_,n,d⟩,_⟩:=I.tuple h;let⟨its',r',⟨o',e',_,n',d'⟩,_⟩:=I.tuple h';rw[e]at e';cases e';rw[d]at d';injection d' with d1 _;have:its=its':=by simpa using congrArg Array.toList d1
 subst this;exact r.inj r'
end
abbrev Cx.wish(X:Cx)(E:f_ 0):Cx:={ X with xe:=E}
abbrev Cx.nox(X:Cx):Cx:=X.wish λ_ _=>False
theorem Cx.Ok.wish{X:Cx}(ok:X.Ok)(E:f_ 0):(X.wish E).Ok:=⟨ok.mod,ok.kind,ok.glob,ok.blt,ok.above,ok.inj,ok.has,ok.cab,ok.hd,ok.frames,ok.stk,ok.exf,ok.bs,ok.bsz,ok.noex,ok.exfs,ok.funs,ok.frf⟩
theorem Cx.Ok.unwish{X:Cx}{E:f_ 0}(ok:(X.wish E).Ok):X.Ok:=⟨ok.mod,ok.kind,ok.glob,ok.blt,ok.above,ok.inj,ok.has,ok.cab,ok.hd,ok.frames,ok.stk,ok.exf,ok.bs,ok.bsz,ok.noex,ok.exfs,ok.funs,ok.frf⟩
section
variable{X:Cx}{pins:g_ 0}{σ:St}{H:Hp}{s:tw}{E:f_ 0}
theorem Inv.wish(I:Inv X pins σ H s)(E:f_ 0):Inv (X.wish E) pins σ H s:=⟨I.ok.wish E,I.os,I.bare,I.base,I.loc,I.cell,I.free,I.freeC,I.pin,I.hok,I.len⟩
theorem Inv.unwish(I:Inv (X.wish E) pins σ H s):Inv X pins σ H s:=⟨I.ok.unwish,I.os,I.bare,I.base,I.loc,I.cell,I.free,I.freeC,I.pin,I.hok,I.len⟩
theorem SP.unwish(h:SP (X.wish E) pins D f s'):SP X pins D f s':=by
 cases f with
 |next=>let⟨σ',H',I,q⟩:=h;exact⟨σ',H',I.unwish,q⟩
 |brk=>let⟨σ',H',I,q⟩:=h;exact⟨σ',H',I.unwish,q⟩
 |cont=>let⟨σ',H',I,q⟩:=h;exact⟨σ',H',I.unwish,q⟩
 |ret u=>let⟨v,σ',H',I,r,q⟩:=h;exact⟨v,σ',H',I.unwish,r,q⟩
theorem PSs.nox{st:ue ud}{t:TS}(h:PSs X.nox st t):PSs X st t:=λpins s σ H D I hw=>ji (h pins s σ H D (I.wish _) hw) (λ_ _ q=>q.unwish) λ_ _ z=>j8 z
end
section
variable{X:Cx}{st:ud}{rest:ue ud}{t u:TS}{e:uc}{te:TE}{pos:Pos}
def Rz:TS:=λD σ H=>D.nx σ H
def X8(t u:TS):TS:=λD σ H=>t { D with nx:=u D} σ H
def OE:PSs X [] Rz:=λ_ _ σ H _ I h=>wpAny_execs_nil ⟨σ,H,I,h⟩
def KN(h1:PS X st t)(h2:PSs X rest u):PSs X (st::rest) (X8 t u):=by
 intro pins s σ H D I h;refine wpAny_execs_cons (thn (h1 pins s σ H { D with nx:=u D} I h) λf s1 q=>?_);cases f with
 |next=>let⟨σ',H',I',q⟩:=q;exact h2 pins s1 σ' H' D I' q
 |ret v=>exact q
 |brk=>exact q
 |cont=>exact q
def OF(h1:PS X st t):PSs X [st] t:=by
 intro pins s σ H D I h;refine wpAny_execs_cons (thn (h1 pins s σ H D I h) λf s1 q=>?_);cases f with
 |next=>exact wpAny_execs_nil q
 |ret v=>exact q
 |brk=>exact q
 |cont=>exact q
def OG:PS X (.Pass pos) Rz:=λ_ _ σ H _ I h=>wpAny_Pass ⟨σ,H,I,h⟩
theorem Inv.quiet{pins:g_ 0}{σ:St}{H:Hp}{s:tw}(I:Inv X pins σ H s):interactive X.env=false:=by simp[interactive,I.ok.kind]
def UZ(te:TE):TS:=λD σ H=>te σ H λ_ H1=>D.nx σ H1
def OH(he:PE X e te)(hs:swapsWith e b_ pos.line X.env=pure false:=by rfl):PS X (.Expr e pos) (UZ te):=by intro pins s σ H D I h;exact wpAny_Expr_any (thn (he pins s σ H _ I h) λv s1 ⟨x,H1,I1,r1,q1⟩=>⟨σ,H1,I1,q1⟩) I.quiet hs
def X9(te:TE):TS:=λD σ H=>te σ H D.rt
def Sn(he:PE X e te):PS X (.Return (a_ e) pos) (X9 te):=by intro pins s σ H D I h;exact wpAny_Return_some (thn (he pins s σ H _ I h) λv s1 ⟨x,H1,I1,r1,q1⟩=>⟨x,σ,H1,I1,r1,q1⟩)
def X'(c:TT)(t u:TS):TS:=λD σ H=>c σ H λb H1=>if b=true then t D σ H1 else u D σ H1
def V0{c:uc}{a b:ue ud}{tc:TT}(hc:PT X c tc)(ha:PSs X a t)(hb:PSs X b u):PS X (.If c a b pos) (X' tc t u):=by
 intro pins s σ H D I h;refine wpAny_If (thn (hc pins s σ H _ I h) λd s1 ⟨H1,I1,q1⟩=>?_);cases d with
 |true=>exact ha pins s1 σ H1 D I1 q1
 |false=>exact hb pins s1 σ H1 D I1 q1
end
abbrev TG:=V->St->Hp->(St->Hp->Prop)->Prop
abbrev TGs:=ue V->St->Hp->(St->Hp->Prop)->Prop
def PG(X:Cx)(target:uc)(t:TG):Prop:=
 ∀(pins:g_ 0)(s:tw)(σ:St)(H:Hp)(v:V)(u:s_)(Q:St->Hp->Prop),Inv X pins σ H s->RelV v u->t v σ H Q->
  wpAny (h_ X) X.A (assign target X.env u) (λ_ s'=>∃σ' H',Inv X pins σ' H' s'/\Q σ' H') X.xe s
def PGs(X:Cx)(ts:ue uc)(t:TGs):Prop:=
 ∀(pins:g_ 0)(s:tw)(σ:St)(H:Hp)(vs:ue V)(us:ue s_)(Q:St->Hp->Prop),Inv X pins σ H s->aR vs us->t vs σ H Q->
  wpAny (h_ X) X.A (assignInOrder ((mn ts X.env).map (·.2)) us) (λ_ s'=>∃σ' H',Inv X pins σ' H' s'/\Q σ' H') X.xe s
abbrev Xa:=V->V->V->Hp->(Hp->Prop)->Prop
def Xb(X:Cx)(t:Xa):Prop:=
 ∀(pins:g_ 0)(s:tw)(σ:St)(H:Hp)(o i v:V)(ov iv u:s_)(Q:Hp->Prop),Inv X pins σ H s->RelV o ov->RelV i iv->RelV v u->t o i v H Q->
  wpAny (h_ X) X.A (setItem ov iv u) (λ_ s'=>∃H',Inv X pins σ H' s'/\Q H') X.xe s
section
variable{X:Cx}{pos:Pos}
def KO(i:Nat):TG:=λv σ H Q=>Q (σ.set i (a_ v)) H
def OI(hN:X.N.Nodup)(hi:X.N[i]?=a_ x)(hx:Loc X.env.scope x)(hf:X.fn x=true\/X.env.scope.names.lookup x=a_ .local:=by first|exact .inl rfl|exact .inr rfl|assumption):PG X (.Name x pos) (KO i):=by intro pins s σ H v u Q I r h;exact wpAny_assign_Name (Dy I hN hi hx r (λs' I'=>⟨_,H,I',h⟩) hf)
def Xc:TGs:=λvs σ H Q=>vs=[]/\Q σ H
def V1(t:TG)(u:TGs):TGs:=λvs σ H Q=>∃v r,vs=v::r/\t v σ H λσ' H'=>u r σ' H' Q
def OJ:PGs X [] Xc:=by
 intro pins s σ H vs us Q I r h;let⟨e,h⟩:=h;subst e;cases r
 exact assignInOrder_nil ⟨σ,H,I,h⟩
def KQ{e:uc}{es:ue uc}{t:TG}{u:TGs}(h1:PG X e t)(h2:PGs X es u)
  (hs:(mn (e::es) X.env).map (·.2)=assign e X.env::(mn es X.env).map (·.2):=by rfl):PGs X (e::es) (V1 t u):=by
 intro pins s σ H vs us Q I r h;let⟨v,vr,e1,h⟩:=h;subst e1;cases r with
 |cons r rr=>rw[hs];refine assignInOrder_cons (thn (h1 pins s σ H _ _ _ I r h) λ_ s1 ⟨σ1,H1,I1,q1⟩=>?_);exact h2 pins s1 σ1 H1 _ _ Q I1 rr q1
def V2(K:ag)(n:Nat)(t:TGs):TG:=λv σ H Q=>∃a xs,v=.ref a/\SqT K H a xs/\xs.length=n/\t xs σ H Q
def So{es:ue uc}{k:Nat}{t:TGs}{n:Nat}(hc:X.calm=true)(h:PGs X es t)
  (hn:(mn es X.env).length=n:=by rfl) (hst:(mn es X.env).findIdx? (·.1)=b_:=by rfl):PG X (.Tuple es k pos) (V2 X.K n t):=by
 intro pins s σ H v u Q I r hw;let⟨a,xs,e1,hq,hl,hw⟩:=hw;subst e1;cases r
 let⟨its,rv,ht,hz⟩:=I.tuple hq;refine assign_Tuple_tuple (I.ok.hd hc) ht (by simp[hn,<-hl,rv.length]) hst λh' hx=>?_;have I1:Inv X pins σ H {s with heap:=h'}:=I.kept (t':=s.toks) λb o e=>hx b o (bu (bf e)) e;exact h pins _ σ H xs _ Q I1 (l_ rv) hw
def Sq(te:TE)(g:TG):TS:=λD σ H=>te σ H λx H1=>g x σ H1 D.nx
def Sr{tg e:uc}{te:TE}{g:TG}(he:PE X e te)(hg:PG X tg g)(hs:swapsWithSole [tg] e pos.line X.env=pure false:=by rfl)(hw:swappedStores [tg] e X.env=pure b_:=by rfl)
  (h1:(mn [tg] X.env).map (·.2)=[assign tg X.env]:=by rfl):PS X (.Assign [tg] e pos) (Sq te g):=by
 intro pins s σ H D I h;refine wpAny_Assign_stores (thn (he pins s σ H _ I h) λv s1 hz=>?_) hs hw;let⟨x,H1,I1,r1,q1⟩:=hz;rw[h1];exact thn (hg pins s1 σ H1 x v _ I1 r1 q1) λ_ s2 q=>q
def Ss{i:Nat}{x:Str}{e:uc}{te:TE}{pos':Pos}(hN:X.N.Nodup)(hi:X.N[i]?=a_ x)(hx:Loc X.env.scope x)(he:PE X e te)(hs:swapsWith e (a_ (.Name x pos')) pos.line X.env=pure false:=by rfl)(hf:X.fn x=true\/X.env.scope.names.lookup x=a_ .local:=by first|exact .inl rfl|exact .inr rfl|assumption):
  PS X (.Assign [.Name x pos'] e pos) (Sq te (KO i)):=by
 intro pins s σ H D I h;refine wpAny_Assign_Name (thn (he pins s σ H _ I h) λv s1 hz=>?_) hs;let⟨y,H1,I1,r1,q1⟩:=hz;exact Dy I1 hN hi hx r1 (λs2 I2=>⟨_,H1,I2,q1⟩) hf
end
section
variable{X:Cx}{pos:Pos}
def Su(c:TT)(tb:TS):TS:=λD σ H=>∃W:Nat->St->Hp->Prop,(∃m,W m σ H)/\∀m σ H,W m σ H->
 c σ H λb H1=>if b=true then ∃N:St->Hp->Prop,(∀σ' H',N σ' H'->∃m',m'<m/\W m' σ' H')/\tb { D with nx:=N,ct:=N,bk:=D.nx} σ H1 else D.nx σ H1
def KR{c:uc}{body:ue ud}{tc:TT}{tb:TS}(hp:PassesOwn (h_ X) X.A X.env X.xe)(hc:PT X c tc)(hb:PSs X body tb):PS X (.While c body [] pos) (Su tc tb):=by
 intro pins s σ H D I h;let⟨W,⟨m0,w0⟩,turn⟩:=h;refine wpAny_While (codeAny_whileLoop (λn s'=>∃σ' H',Inv X pins σ' H' s'/\W n σ' H') ?_ m0 ⟨σ,H,I,w0⟩);rintro n s1 ⟨σ1,H1,I1,w1⟩;refine n5 hp (thn (hc pins s1 σ1 H1 _ I1 (turn n σ1 H1 w1)) λb s2 ⟨H2,I2,q2⟩=>?_);cases b with
 |true=>
  let⟨N,hN,q2⟩:=q2;rw[if_pos rfl];refine n5 hp (thn (hb pins s2 σ1 H2 _ I2 q2) λf s3 q3=>?_);cases f with
  |next=>let⟨σ3,H3,I3,n3⟩:=q3;let⟨m',hm,w3⟩:=hN σ3 H3 n3;exact⟨m',hm,σ3,H3,I3,w3⟩
  |cont=>let⟨σ3,H3,I3,n3⟩:=q3;let⟨m',hm,w3⟩:=hN σ3 H3 n3;exact⟨m',hm,σ3,H3,I3,w3⟩
  |brk=>exact q3
  |ret v=>exact q3
 |false=>rw[if_neg cu];exact wpAny_execs_nil ⟨σ1,H2,I2,q2⟩
end
structure It where
 go:Nat->Hp->Prop
 yld:Nat->Hp->V->Hp->Prop
 stop:Nat->Hp->Prop
def Dz(X:Cx)(pins:g_ 0)(H:Hp)(b:t7):Prop:=H b=b_/\b≠X.env.locals/\b∉X.fs/\(b∈X.ex\/X.s₀.heap.objs.size<=b)/\(∀x c,X.env.cells.lookup x=a_ c->c≠b)/\∀p∈X.pn++pins,p.1≠b
theorem Inv.fpOk{X:Cx}{pins:g_ 0}{σ:St}{H H':Hp}{s:tw}{b:t7}(I:Inv X pins σ H s)(hb:(e_ s)<=b)(hn:H' b=b_):Dz X pins H' b:=by
 refine⟨hn,ja (c9 I.lt hb),I.nofs hb,.inr (fv I.sz hb),λx c e z=>?_,λp hp z=>?_⟩
 ·let⟨v,q⟩:=I.cell x c e;exact absurd (c9 q.lt (by rw[z];exact hb)) (i6 _)
 ·exact absurd (c9 (bf (I.pin p hp).1) (by rw[z];exact hb)) (i6 _)
structure Turn(P:ub)(w:ua)(K:ag)(tg:uc)(J:It)(fp:ue t7)(it:t7)(tn:Nat->t_->Prop):Prop where
 mem:it∈fp
 obj:∀i h,tn i h->∀b∈fp,∃o,h.get? b=some o/\∀v,o.data≠.cell v
 keep:∀i h h',tn i h->(∀b∈fp,∀o,h.get? b=some o->h'.get? b=some o)->tn i h'
 item:∀(X:Cx),X.prog=P->X.w=w->X.K=K->X.calm=true->∀(i:Nat)(pins:g_ 0)(s:tw)(σ:St)(H:Hp)(E:f_ 0),Inv X pins σ H s->(∀b∈fp,Dz X pins H b)->tn i s.heap->J.go i H->
  wpAny (model P w) X.A (pyNext (.ref it)) (λr s1=>∃u,r=some u/\
   wpAny (model P w) X.A (letOwnedTupleGo tg (.ref it) u) (λ_ s2=>∃x H',Inv X pins σ H' s2/\RelV x u/\J.yld i H x H'/\tn (i+1) s2.heap/\∀b∈fp,H' b=none) E s1) E s
 done:∀(X:Cx),X.prog=P->X.w=w->X.K=K->X.calm=true->∀(i:Nat)(pins:g_ 0)(s:tw)(σ:St)(H:Hp)(E:f_ 0),Inv X pins σ H s->(∀b∈fp,Dz X pins H b)->tn i s.heap->J.stop i H->
  wpAny (model P w) X.A (pyNext (.ref it)) (λr s1=>r=none/\Inv X pins σ H s1) E s
 self:∀(A:t9)(i:Nat)(s:tw)(Q:f_ 0)(E:f_ 0),tn i s.heap->Q (.ref it) s->wpAny (model P w) A (pyIter (.ref it)) Q E s
abbrev TI:=St->Hp->(It->Hp->Prop)->Prop
def PIE(X:Cx)(pins:g_ 0)(σ:St)(tg:uc)(R:It->Hp->Prop)(itv:s_)(s2:tw):Prop:=
 ∃(it:t7)(fp:ue t7)(tn:Nat->t_->Prop)(J:It)(H':Hp),itv=.ref it/\Inv X pins σ H' s2/\Turn X.prog X.w X.K tg J fp it tn/\tn 0 s2.heap/\(∀b∈fp,Dz X pins H' b)/\R J H'
def PI(X:Cx)(tg iter:uc)(wi:TI):Prop:=
 ∀(pins:g_ 0)(s:tw)(σ:St)(H:Hp)(R:It->Hp->Prop),Inv X pins σ H s->wi σ H R->
  wpAny (h_ X) X.A (eval iter X.env) (λv s1=>wpAny (h_ X) X.A (pyIter v) (PIE X pins σ tg R) X.xe s1) X.xe s
def KS{E:f_ 0}{s:tw}{o:Obj}{Q:j_ Unit}(ho:s.heap.get? it=a_ o)(hc:o.cls=.type n)(hd:o.data=.fields vs)(hn:["enumerate","zip","dict_itemiterator","dict_reverseitemiterator","odict_iterator","itertools.zip_longest","itertools.pairwise"].contains n=false)(hQ:Q () s):wpAny M A (letOwnedTupleGo tg (.ref it) u) Q E s:=by
 unfold letOwnedTupleGo;cases tg <;> first
  |exact af hQ
  | (cases u <;> first
    |exact af hQ
    | (refine aa (wpAny_load ho ?_)
       rw[hc,hd]
       show wpAny M A (if(["enumerate","zip","dict_itemiterator","dict_reverseitemiterator","odict_iterator","itertools.zip_longest","itertools.pairwise"].contains n&&vs[0]? == a_ (rawInt _))=true then _ else _) Q E s
       rw[if_neg (by intro h;rw[hn,Bool.false_and]at h;cases h)];exact af hQ))
def Itl(K:ag)(a:t7):It:=⟨λi H=>∃xs x,SqL K H a xs/\xs[i]?=a_ x,λi H x H'=>H'=H/\∀xs,SqL K H a xs->xs[i]?=a_ x,λi H=>∃xs,SqL K H a xs/\xs.length<=i⟩
def Itt(K:ag)(a:t7):It:=⟨λi H=>∃xs x,SqT K H a xs/\xs[i]?=a_ x,λi H x H'=>H'=H/\∀xs,SqT K H a xs->xs[i]?=a_ x,λi H=>∃xs,SqT K H a xs/\xs.length<=i⟩
def Itr(lo:Int)(n:Nat):It:=⟨λi _=>i<n,λi H x H'=>H'=H/\x=.int (lo+i),λi _=>n<=i⟩
def AK{P:ub}{w:ua}{K:ag}{tg:uc}(a it:t7):Turn P w K tg (Itl K a) [it] it (λi h=>h.IsListIter it a i) where
 mem:=by simp
 obj:=λi h st b hb=>by
  have e:b=it:=by simpa using hb
  subst e;let⟨o,e,c,d⟩:=st;exact⟨o,e,λv z=>by rw[d]at z;cases z⟩
 keep:=λi h h' st k=>st.at λo e=>k it (by simp) o e
 item:=by
  intro X hP hw hK hc i pins s σ H E I hf st hg;subst hP hw hK;let⟨xs,x,hq,hx⟩:=hg;let⟨its,rv,p,hz⟩:=I.list hq;let⟨u,hu,ru⟩:=rv.get hx;let⟨f0,f1,f2,f3,f4,f5⟩:=hf it (by simp);refine wpAny_pyNext_list_item st p.isList (x:=u) (l_ hu) λh' st' sb=>?_;have I1:Inv X pins σ H {s with heap:=h'}:=I.turned (t':=s.toks) (λb o hb e=>(sb.2 b hb).trans e) f0 f1 f3 f4 f5;let⟨o,e,c,d⟩:=id st';exact⟨u,rfl,KS (s:={s with heap:=h'}) e c d nofun ⟨x,H,I1,ru,⟨rfl,λys hy=>by rw[I.list_inj hy hq];exact hx⟩,st',λb hb=>(hf b hb).1⟩⟩
 done:=by intro X hP hw hK hc i pins s σ H E I hf st hg;subst hP hw hK;let⟨xs,hq,hx⟩:=hg;let⟨its,rv,p,hz⟩:=I.list hq;let⟨f0,f1,f2,f3,f4,f5⟩:=hf it (by simp);have hl:=rv.length;exact wpAny_pyNext_list_end (I.ok.hd hc) st p.isList (by simp;omega) λh' eb=>⟨rfl,I.turned (t':=s.toks) (λb o hb e=>eb b o hb e) f0 f1 f3 f4 f5⟩
 self:=λ_ _ _ _ _ st h=>wpAny_pyIter_listiter st h
def Fw{P:ub}{w:ua}{K:ag}{tg:uc}(a it:t7):Turn P w K tg (Itt K a) [it] it (λi h=>h.IsTupleIter it a i) where
 mem:=by simp
 obj:=λi h st b hb=>by
  have e:b=it:=by simpa using hb
  subst e;let⟨o,e,c,d⟩:=st;exact⟨o,e,λv z=>by rw[d]at z;cases z⟩
 keep:=λi h h' st k=>st.at λo e=>k it (by simp) o e
 item:=by
  intro X hP hw hK hc i pins s σ H E I hf st hg;subst hP hw hK;let⟨xs,x,hq,hx⟩:=hg;let⟨its,rv,p,hz⟩:=I.tuple hq;let⟨u,hu,ru⟩:=rv.get hx;let⟨f0,f1,f2,f3,f4,f5⟩:=hf it (by simp);refine wpAny_pyNext_tuple_item st (show s.heap.IsTuple a its.toArray from p) (x:=u) (l_ hu) λh' st' sb=>?_
  have I1:Inv X pins σ H {s with heap:=h'}:=I.turned (t':=s.toks) (λb o hb e=>(sb.2 b hb).trans e) f0 f1 f3 f4 f5;let⟨o,e,c,d⟩:=id st';exact⟨u,rfl,KS (s:={s with heap:=h'}) e c d nofun ⟨x,H,I1,ru,⟨rfl,λys hy=>by rw[I.tuple_inj hy hq];exact hx⟩,st',λb hb=>(hf b hb).1⟩⟩
 done:=by intro X hP hw hK hc i pins s σ H E I hf st hg;subst hP hw hK;let⟨xs,hq,hx⟩:=hg;let⟨its,rv,p,hz⟩:=I.tuple hq;let⟨f0,f1,f2,f3,f4,f5⟩:=hf it (by simp);have hl:=rv.length;exact wpAny_pyNext_tuple_end (I.ok.hd hc) st (show s.heap.IsTuple a its.toArray from p) (by simp;omega) λh' eb=>⟨rfl,I.turned (t':=s.toks) (λb o hb e=>eb b o hb e) f0 f1 f3 f4 f5⟩
 self:=λ_ _ _ _ _ st h=>wpAny_pyIter_tupleiter st h
def Fx{P:ub}{w:ua}{K:ag}{tg:uc}(it:t7)(lo:Int)(n:Nat):Turn P w K tg (Itr lo n) [it] it (λi h=>IsRangeIter h it (lo+(i:Nat)*1) ((n:Int)-(i:Nat)) 1) where
 mem:=by simp
 obj:=λi h st b hb=>by
  have e:b=it:=by simpa using hb
  subst e;exact⟨_,st,λv z=>by have z':Data.fields _=Data.cell v:=z;cases z'⟩
 keep:=λi h h' st k=>k it (by simp) _ st
 item:=by
  intro X hP hw hK hc i pins s σ H E I hf st hg;subst hP hw hK;let⟨f0,f1,f2,f3,f4,f5⟩:=hf it (by simp);have W:=Walks.range (prog:=X.prog) (w:=X.w) (I.ok.hd hc) it lo 1 n;refine W.item i s _ _ hg st λv h' tk hv st' kk=>?_;let⟨t,rfl⟩:=hv;have I1:Inv X pins σ H {s with heap:=h',toks:=tk}:=I.turned (λb o hb e=>kk b o (l_ hb) e) f0 f1 f3 f4 f5;refine⟨_,rfl,KS (s:={s with heap:=h',toks:=tk}) (n:="range_iterator") st' rfl rfl nofun ⟨.int (lo+i),H,I1,⟨t,?_⟩,⟨rfl,rfl⟩,st',λb hb=>(hf b hb).1⟩⟩;rw[Int.mul_one]
 done:=by intro X hP hw hK hc i pins s σ H E I hf st hg;subst hP hw hK;let⟨f0,f1,f2,f3,f4,f5⟩:=hf it (by simp);exact wpAny_pyNext_range_end (I.ok.hd hc) st (by have:n<=i:=hg;omega) λh' eb=>⟨rfl,I.turned (t':=s.toks) (λb o hb e=>eb b o hb e) f0 f1 f3 f4 f5⟩
 self:=λ_ _ _ _ _ st h=>wpAny_pyIter_rangeiter st h
section
variable{X:Cx}{tg:uc}
def DA{pins:g_ 0}{σ:St}{H:Hp}{s:tw}{R:It->Hp->Prop}{E:f_ 0}{lo hi:Int}{t u v:Tok}{tk:Nat}(I:Inv X pins σ H s)(h1:-(2 ^ 62)<=lo)(h2:lo<2 ^ 62)(h3:-(2 ^ 62)<=hi)(h4:hi<2 ^ 62)
  (q:R (Itr lo (hi-lo).toNat) H):wpAny (h_ X) X.A (pyIter (.ref (e_ s))) (PIE X pins σ tg R) E {s with heap:=s.heap.push {cls:=.type "range",data:=.fields #[.int lo t,.int hi u,.int 1 v]},toks:=tk}:=by
 refine wpAny_pyIter_range (IsRange.new ..) (small_one h1 h2 h3 h4) ?_;have I1:Inv X pins σ H {s with heap:=s.heap.push {cls:=.type "range",data:=.fields #[.int lo t,.int hi u,.int 1 v]},toks:=tk}:=I.kept λb o e=>ae _ e;refine⟨(s.heap.push {cls:=.type "range",data:=.fields #[.int lo t,.int hi u,.int 1 v]}).objs.size,[(s.heap.push {cls:=.type "range",data:=.fields #[.int lo t,.int hi u,.int 1 v]}).objs.size],_,_,H,rfl,
  I1.kept (t':=tk) λb o e=>ae _ e,Fx _ lo (hi-lo).toNat,?_,λb hb=>?_,q⟩
 ·have e1:lo+((0:Nat):Int)*1=lo:=by simp
  have e2:(((hi-lo).toNat:Nat):Int)-((0:Nat):Int)=Builtin.Range.rangeSize lo hi 1:=by rw[rangeSize_one];split <;> omega
  show IsRangeIter _ _ (lo+((0:Nat):Int)*1) ((((hi-lo).toNat:Nat):Int)-((0:Nat):Int)) 1
  rw[e1,e2];exact bo _ rfl
 ·have e:b=(s.heap.push {cls:=.type "range",data:=.fields #[.int lo t,.int hi u,.int 1 v]}).objs.size:=by simpa using hb
  subst e;exact I1.fpOk (bq _) (I1.hok.fresh (bq _))
def Xd(wi:TI)(g:TG)(tb:TS):TS:=λD σ H=>wi σ H λJ H1=>∃W:Nat->Nat->St->Hp->Prop,(∃m,W 0 m σ H1)/\∀i m σ H,W i m σ H->
 (J.stop i H/\D.nx σ H)\/(J.go i H/\∃N:St->Hp->Prop,(∀σ' H',N σ' H'->∃m',m'<m/\W (i+1) m' σ' H')/\∀x H',J.yld i H x H'->g x σ H' λσ2 H2=>tb { D with nx:=N,ct:=N,bk:=D.nx} σ2 H2)
def xQ(fp:ue t7)(h:t_):g_ 0:=fp.filterMap λb=>(h.get? b).map λo=>(b,o)
def lY{h:t_}(hb:b∈fp)(e:h.get? b=a_ o):(b,o)∈xQ fp h:=ph.mpr ⟨b,hb,by rw[e];rfl⟩
def Ja{h:t_}(hp:p∈xQ fp h):p.1∈fp/\h.get? p.1=a_ p.2:=by
 let⟨b,hb,e⟩:=ph.mp hp;cases q:h.get? b with
 |none=>rw[q]at e;cases e
 |some o=>rw[q]at e;have e':(b,o)=p:=cy e;subst e';exact⟨hb,q⟩
theorem Inv.pinned{pins:g_ 0}{σ:St}{H:Hp}{s:tw}{fp:ue t7}(I:Inv X pins σ H s)(hf:∀b∈fp,Dz X pins H b)(ho:∀b∈fp,∃o,s.heap.get? b=a_ o/\∀v,o.data≠.cell v):Inv X (pins++xQ fp s.heap) σ H s:=I.pins_of λp hp=>(ai.mp hp).elim (λz=>I.pin p (ah _ z)) λz=>by let⟨hb,e⟩:=Ja z;let⟨f0,f1,f2,_⟩:=hf p.1 hb;let⟨o,e',d⟩:=ho p.1 hb;rw[e]at e';cases e';exact⟨e,f0,f1,f2,d⟩
theorem Inv.unpinned{pins pl:g_ 0}{σ:St}{H:Hp}{s:tw}(I:Inv X (pins++pl) σ H s):Inv X pins σ H s:=I.pins_of λp hp=>I.pin p (ah _ (b0 _ hp))
def Sv(hp:PassesOwn (h_ X) X.A X.env X.xe)(hc:X.calm=true)(hi:PI X tg iter wi)(hg:PG X tg g)(hb:PSs X body tb)(hs:∀x,k5 iter X.env x=pure x:=by intro _;rfl):PS X (.For tg iter body [] pos) (Xd wi g tb):=by
 intro pins s σ H D I h;refine wpAny_For (thn (hi pins s σ H _ I h) λv s1 h1=>thn h1 λitv s2 h2=>?_) hs;let⟨it,fp,tn,J,H2,e,I2,T,st2,f2,W,⟨m0,w0⟩,turn⟩:=h2;subst e
 -- what stays true of the iterator's objects through the loop
 have stat:∀{H':Hp},(∀b∈fp,H' b=b_)->∀b∈fp,Dz X pins H' b:=λhn b hb=>⟨hn b hb,(f2 b hb).2⟩;refine codeAny_forLoop_any (λn s'=>∃i σ' H',Inv X pins σ' H' s'/\tn i s'.heap/\(∀b∈fp,H' b=b_)/\W i n σ' H') ?_ m0 ⟨0,σ,H2,I2,st2,λb hb=>(f2 b hb).1,w0⟩;rintro n s3 ⟨i,σ3,H3,I3,st3,fr3,w3⟩;rcases turn i n σ3 H3 w3 with⟨stop,qn⟩|⟨go,N,hN,step⟩
 ·refine n5 hp (thn (T.done X rfl rfl rfl hc i pins s3 σ3 H3 X.xe I3 (stat fr3) st3 stop) λr s4 ⟨hr,I4⟩=>?_);subst hr;exact wpAny_execs_nil ⟨σ3,H3,I4,qn⟩
 ·refine n5 hp (thn (T.item X rfl rfl rfl hc i pins s3 σ3 H3 X.xe I3 (stat fr3) st3 go) λr s4 ⟨u,hr,h4⟩=>?_);subst hr;refine n5 hp (thn h4 λ_ s5 hz=>?_);let⟨x,H5,I5,r5,y5,st5,fr5⟩:=hz;have I5':=I5.pinned (stat fr5) (T.obj _ _ st5);refine n5 hp (thn (hg _ s5 σ3 H5 x u _ I5' r5 (step x H5 y5)) λ_ s6 ⟨σ6,H6,I6,q6⟩=>?_);refine n5 hp (thn (hb _ s6 σ6 H6 _ I6 q6) λf s7 q7=>?_);have again:∀{σ7:St}{H7:Hp},Inv X (pins++xQ fp s5.heap) σ7 H7 s7->N σ7 H7->∃m,m<n/\∃i σ' H',Inv X pins σ' H' s7/\tn i s7.heap/\(∀b∈fp,H' b=b_)/\W i m σ' H':=λ{σ7 H7} I7 n7=>by let⟨m',hm,w7⟩:=hN σ7 H7 n7;refine⟨m',hm,i+1,σ7,H7,I7.unpinned,T.keep _ _ _ st5 λb hb o e=>(I7.pin (b,o) (ah _ (ah _ (lY hb e)))).1,λb hb=>?_,w7⟩;let⟨o,e,d⟩:=T.obj _ _ st5 b hb;exact(I7.pin (b,o) (ah _ (ah _ (lY hb e)))).2.1
  cases f with
  |next=>let⟨σ7,H7,I7,n7⟩:=q7;exact again I7 n7
  |cont=>let⟨σ7,H7,I7,n7⟩:=q7;exact again I7 n7
  |brk=>let⟨σ7,H7,I7,q7⟩:=q7;exact⟨σ7,H7,I7.unpinned,q7⟩
  |ret v=>let⟨x7,σ7,H7,I7,r7,q7⟩:=q7;exact⟨x7,σ7,H7,I7.unpinned,r7,q7⟩
end
abbrev R2:=V->V->Hp->VK->Prop
def OpR(X:Cx)(f:s_->s_->Sem s_)(r:R2):Prop:=
 ∀(pins:g_ 0)(s:tw)(σ:St)(H:Hp)(x y:V)(v u:s_)(Q:VK),Inv X pins σ H s->RelV x v->RelV y u->r x y H Q->
  wpAny (h_ X) X.A (f v u) (EP X pins σ Q) X.xe s
def UnR(X:Cx)(f:s_->Sem s_)(r:V->Hp->VK->Prop):Prop:=
 ∀(pins:g_ 0)(s:tw)(σ:St)(H:Hp)(x:V)(v:s_)(Q:VK),Inv X pins σ H s->RelV x v->r x H Q->
  wpAny (h_ X) X.A (f v) (EP X pins σ Q) X.xe s
def iH(X:Cx)(f:s_)(r:ue V->Hp->VK->Prop):Prop:=
 ∀(pins:g_ 0)(s:tw)(σ:St)(H:Hp)(xs:ue V)(us:ue s_)(Q:VK),Inv X pins σ H s->aR xs us->r xs H Q->
  wpAny (h_ X) X.A (call f us) (EP X pins σ Q) X.xe s
def Xe(X:Cx)(r:V->Hp->(Bool->Hp->Prop)->Prop):Prop:=
 ∀(pins:g_ 0)(s:tw)(σ:St)(H:Hp)(x:V)(v:s_)(Q:Bool->Hp->Prop),Inv X pins σ H s->RelV x v->r x H Q->
  wpAny (h_ X) X.A (truthy v) (TP X pins σ Q) X.xe s
def tOp(r:R2)(ta tb:TE):TE:=λσ H Q=>ta σ H λx H1=>tb σ H1 λy H2=>r x y H2 Q
def tUn(r:V->Hp->VK->Prop)(ta:TE):TE:=λσ H Q=>ta σ H λx H1=>r x H1 Q
def rI(C:Int->Int->Prop)(g:Int->Int->V):R2:=λx y H Q=>∃i j,x=.int i/\y=.int j/\C i j/\Q (g i j) H
def rI0(g:Int->Int->V):R2:=λx y H Q=>∃i j,x=.int i/\y=.int j/\Q (g i j) H
def rU(g:Int->V):V->Hp->VK->Prop:=λx H Q=>∃i,x=.int i/\Q (g i) H
section
variable{X:Cx}{a b c:uc}{ta tb tc:TE}{pos:Pos}
def Sw(ha:PE X a ta)(hb:PE X b tb){pins:g_ 0}{s:tw}{σ:St}{H:Hp}{R:V->V->Hp->Prop}(I:Inv X pins σ H s)
  (h:ta σ H λx H1=>tb σ H1 λy H2=>R x y H2) {Q:f_ 0} {f:s_->s_->Sem s_}
  (hf:∀v u s2 x y H2,Inv X pins σ H2 s2->RelV x v->RelV y u->R x y H2->wpAny (h_ X) X.A (f v u) Q X.xe s2):
  wpAny (h_ X) X.A (eval a X.env) (λv s₁=>wpAny (h_ X) X.A (eval b X.env) (λu s₂=>wpAny (h_ X) X.A (f v u) Q X.xe s₂) X.xe s₁) X.xe s:=by
 refine thn (ha pins s σ H _ I h) λv s1 hz=>?_;let⟨x,H1,I1,r1,q1⟩:=hz;refine thn (hb pins s1 σ H1 _ I1 q1) λu s2 hz=>?_;let⟨y,H2,I2,r2,q2⟩:=hz;exact hf v u s2 x y H2 I2 r1 r2 q2
def V3(ho:OpR X (jc op) r)(ha:PE X a ta)(hb:PE X b tb):PE X (.BinOp a op b pos) (tOp r ta tb):=by intro pins s σ H Q I h;exact wpAny_BinOp (Sw ha hb I h λv u s2 x y H2 I2 rx ry q=>ho pins s2 σ H2 x y v u Q I2 rx ry q)
def V4{r:V->Hp->VK->Prop}(ho:UnR X (unaryOp op) r)(ha:PE X a ta):PE X (.UnaryOp op a pos) (tUn r ta):=by intro pins s σ H Q I h;exact UnaryOp_ (thn (ha pins s σ H _ I h) λv s1 ⟨x,H1,I1,r1,q1⟩=>ho pins s1 σ H1 x v Q I1 r1 q1)
def opI{f:s_->s_->Sem s_}{C:Int->Int->Prop}{g:Int->Int->Int}
  (rule:∀(i j:Int)(t u:Tok)(s:tw)(Q:f_ 0)(E:f_ 0),C i j->Q (.int (g i j) s.toks) { s with toks:=s.toks+1}->wpAny (h_ X) X.A (f (.int i t) (.int j u)) Q E s):
  OpR X f (rI C λi j=>.int (g i j)):=by
 intro pins s σ H x y v u Q I rx ry h;let⟨i,j,rfl,rfl,hc,q⟩:=h;let⟨t,rfl⟩:=rx;let⟨t',rfl⟩:=ry;exact rule i j t t' s _ _ hc ⟨.int (g i j),H,I.tok _,⟨_,rfl⟩,q⟩
def V5{f:s_->s_->Sem s_}{g:Int->Int->Int}
  (rule:∀(i j:Int)(t u:Tok)(s:tw)(Q:f_ 0)(E:f_ 0),Q (.int (g i j) s.toks) { s with toks:=s.toks+1}->wpAny (h_ X) X.A (f (.int i t) (.int j u)) Q E s):
  OpR X f (rI0 λi j=>.int (g i j)):=by
 intro pins s σ H x y v u Q I rx ry h;let⟨i,j,rfl,rfl,q⟩:=h;let⟨t,rfl⟩:=rx;let⟨t',rfl⟩:=ry;exact rule i j t t' s _ _ ⟨.int (g i j),H,I.tok _,⟨_,rfl⟩,q⟩
def V6{f:s_->s_->Sem s_}{g:Int->Int->Bool}
  (rule:∀(i j:Int)(t u:Tok)(s:tw)(Q:f_ 0)(E:f_ 0),Q (.bool (g i j)) s->wpAny (h_ X) X.A (f (.int i t) (.int j u)) Q E s):
  OpR X f (rI0 λi j=>.bl (g i j)):=by
 intro pins s σ H x y v u Q I rx ry h;let⟨i,j,rfl,rfl,q⟩:=h;let⟨t,rfl⟩:=rx;let⟨t',rfl⟩:=ry;exact rule i j t t' s _ _ ⟨.bl (g i j),H,I,rfl,q⟩
def KU(i j:Int):Prop:=0<j/\j<1073741824
def Jb(i j:Int):Prop:=0<=j/\j<=1000000/\i.natAbs<2 ^ 64
def DB(i j:Int):Prop:=(-(2 ^ 64)<i/\i<2 ^ 64)\/(-(2 ^ 64)<j/\j<2 ^ 64)
theorem DB.ok(h:DB i j):IntMulOk i j:=by
 rcases h with⟨h1,h2⟩|⟨h1,h2⟩
 ·exact .of_left (intBits_le_64 h1 h2)
 ·exact .of_right (intBits_le_64 h1 h2)
def Sx:OpR X (jc .Add) (rI0 λi j=>.int (i+j)):=V5 λ_ _ _ _ _ _ _ q=>add_int q
def Sy:OpR X (jc .Sub) (rI0 λi j=>.int (i-j)):=V5 λ_ _ _ _ _ _ _ q=>sub_int q
def Sz:OpR X (jc .Mult) (rI DB λi j=>.int (i*j)):=opI λ_ _ _ _ _ _ _ hc q=>mul_int q hc.ok
def OK:OpR X (jc .FloorDiv) (rI KU λi j=>.int (i/j)):=opI λi j _ _ _ _ _ hc q=>by have h1:(0:Int)<j:=hc.1;have h2:j<1073741824:=hc.2;exact floordiv_int ⋯ (by rw[Int.fdiv_eq_ediv_of_nonneg i ⋯];exact q) (.inl (PyProof.noPylong_small ⋯))
def SB:OpR X (jc .Mod) (rI (λ_ j=>0<j) λi j=>.int (i%j)):=opI λi j _ _ _ _ _ hc q=>by have h1:(0:Int)<j:=hc;exact mod_int' ⋯ (by rw[Int.fmod_eq_emod_of_nonneg i ⋯];exact q)
def SC:OpR X (jc .Pow) (rI Jb λi j=>.int (i ^ j.toNat)):=opI λ_ _ _ _ _ _ _ hc q=>pow_int_small hc.1 hc.2.1 hc.2.2 q
def unI{f:s_->Sem s_}{g:Int->Int}
  (rule:∀(i:Int)(t:Tok)(s:tw)(Q:f_ 0)(E:f_ 0),Q (.int (g i) s.toks) { s with toks:=s.toks+1}->wpAny (h_ X) X.A (f (.int i t)) Q E s):
  UnR X f (rU λi=>.int (g i)):=by
 intro pins s σ H x v Q I rx h;let⟨i,rfl,q⟩:=h;let⟨t,rfl⟩:=rx;exact rule i t s _ _ ⟨.int (g i),H,I.tok _,⟨_,rfl⟩,q⟩
def SD:UnR X (unaryOp .USub) (rU λi=>.int (-i)):=unI λ_ _ _ _ _ q=>neg_int q
end
section
variable{X:Cx}{a b c:uc}{ta tb tc:TE}{pos:Pos}
def Fy{pins:g_ 0}{σ:St}{H:Hp}{s:tw}{Q:VK}{k k':Bool}(I:Inv X pins σ H s)(q:Q (.bl k) H)(e:k=k'):EP X pins σ Q (.bool k') s:=by subst e;exact⟨.bl k,H,I,rfl,q⟩
def V7:OpR X (d6 .Lt) (rI0 λi j=>.bl (decide (i<j))):=V6 λ_ _ _ _ _ _ _ q=>lt_int q
def V8:OpR X (d6 .Gt) (rI0 λi j=>.bl (decide (j<i))):=V6 λ_ _ _ _ _ _ _ q=>gt_int q
def Jc:OpR X (d6 .Lt) (λx y H Q=>∃i j,x=.str i/\y=.str j/\Q (.bl (decide (i.cps.toList<j.cps.toList))) H):=by intro pins s σ H x y v u Q I rx ry h;let⟨i,j,rfl,rfl,q⟩:=h;let⟨t,rfl⟩:=rx;let⟨t',rfl⟩:=ry;exact lt_str (Fy I q rfl)
def SF:OpR X (d6 .Is) (λx y H Q=>y=.non/\Q (.bl (decide (x=.non))) H):=by
 intro pins s σ H x y v u Q I rx ry h;let⟨rfl,q⟩:=h;cases ry
 refine is_none_gen (Fy I q ?_);cases x <;> first
  |(cases rx;rfl)
  |(let⟨t,rfl⟩:=rx;rfl)
theorem OpR.or{f:s_->s_->Sem s_}(h:OpR X f r)(h':OpR X f r'):OpR X f (λx y H Q=>r x y H Q\/r' x y H Q):=by
 intro pins s σ H x y v u Q I rx ry q;rcases q with q|q
 ·exact h pins s σ H x y v u Q I rx ry q
 ·exact h' pins s σ H x y v u Q I rx ry q
def KW(b:uc)(h:op≠.In:=by decide)(h2:op≠.NotIn:=by decide):behindInMarks op b=false:=by
 have e1:(op == CmpOp.In)=false:=by cases op <;> first|rfl|exact absurd rfl h
 have e2:(op == CmpOp.NotIn)=false:=by cases op <;> first|rfl|exact absurd rfl h2
 cases b <;> simp[behindInMarks,e1,e2]
def OL(ho:OpR X (d6 op) r)(ha:PE X a ta)(hb:PE X b tb)(hm:behindInMarks op b=false):PE X (.Compare a [op] [b] pos) (tOp r ta tb):=by intro pins s σ H Q I h;exact wpAny_Compare1 (Sw ha hb I h λv u s2 x y H2 I2 rx ry q=>ho pins s2 σ H2 x y v u Q I2 rx ry q) hm
def OM(K:ag)(x:V)(H:Hp)(k:Bool):Prop:=
 match x with
 |.non=>k=false
 |.bl b=>k=b
 |.int i=>k=(i != 0)
 |.str y=>y.length<=bp/\k=((y.length:Int) != 0)
 |.byt y=>y.size<=bp/\k=((y.size:Int) != 0)
 |.ref p=>(∃xs,SqL K H p xs/\k=!xs.isEmpty)\/(∃xs,SqT K H p xs/\k=!xs.isEmpty)\/∃kvs,H p=a_ (.dK kvs)/\k=!kvs.isEmpty
 |_=>False
def Fz{κ:Type}{kvs:ue (κ×V)}{vs:ue (κ×s_)}(r:KV kvs vs):(!vs.isEmpty)=!kvs.isEmpty:=by cases r <;> rfl
def xR{xs:ue V}{its:ue s_}(r:aR xs its):(!its.toArray.isEmpty)=!xs.isEmpty:=by cases r <;> simp
def qD:(bp:Nat)<2 ^ 63:=by rw[fm];decide
def KY:Xe X (λx H Q=>∃k,OM X.K x H k/\Q k H):=by
 intro pins s σ H x v Q I rx h;let⟨k,e,q⟩:=h;have hl:=qD;have hs:bp=16777216:=fm;cases x with
 |non=>
  cases rx
  have e':k=false:=e;subst e';exact truthy_none ⟨H,I,q⟩
 |bl b=>
  cases rx
  have e':k=b:=e;subst e';exact qm ⟨H,I,q⟩
 |int i=>let⟨t,rfl⟩:=rx;have e':k=(i != 0):=e;subst e';exact PySem.P.truthy_int ⟨H,I,q⟩
 |str y=>let⟨t,rfl⟩:=rx;obtain⟨hy,e'⟩:y.length<=bp/\k=((y.length:Int) != 0):=e;subst e';exact PySem.P.truthy_str ⋯ ⟨H,I.tok _,q⟩
 |byt y=>let⟨t,rfl⟩:=rx;obtain⟨hy,e'⟩:y.size<=bp/\k=((y.size:Int) != 0):=e;subst e';exact PySem.W.truthy_bytes ⋯ ⟨H,I.tok _,q⟩
 |ref p=>
  cases rx
  have e':(∃xs,SqL X.K H p xs/\k=!xs.isEmpty)\/(∃xs,SqT X.K H p xs/\k=!xs.isEmpty)\/∃kvs,H p=a_ (.dK kvs)/\k=!kvs.isEmpty:=e;rcases e' with⟨xs,hx,e'⟩|⟨xs,hx,e'⟩|⟨kvs,hx,e'⟩
  ·subst e';let⟨its,r,pl,hz⟩:=I.list hx;have hlen:=r.length;exact wpAny_truthy_list pl.isList (by simp only[bh];omega) ⟨H,I.tok _,by rw[xR r];exact q⟩
  ·subst e';let⟨its,r,pl,hz⟩:=I.tuple hx;have hlen:=r.length;exact truthy_tuple pl (by simp only[bh];omega) ⟨H,I.tok _,by rw[xR r];exact q⟩
  ·subst e';obtain⟨hz,hS,vs,r,m⟩:kvs.length<=bp/\(p == j7)=false/\∃vs,KV kvs vs/\s.heap.DictOf (dC X.prog X.w) p vs:=I.hok p _ hx;have hlen:kvs.length=vs.length:=ft r;exact wpAny_truthy_dict hS m ⋯ ⟨H,I.tok _,by rw[Fz r];exact q⟩
 |_=>exact(show False from e).elim
def KZ(ha:PE X a ta)(he:∀whole,isTrue a X.env whole=(do let v <-whole;standAt a.pos;holding [v] (truthy v))):
  PT X a (λσ H Q=>ta σ H λx H'=>∃k,OM X.K x H' k/\Q k H'):=by
 intro pins s σ H Q I h
 exact isTrue_plain (thn (ha pins s σ H _ I h) λv s1 ⟨x,H1,I1,r1,q1⟩=>KY pins s1 σ H1 x v Q I1 r1 q1) (he _)
def FA:OpR X (jc .Add) (λx y H Q=>∃i j,x=.str i/\y=.str j/\i.length+j.length<=bp/\Q (.str (i++j)) H):=by intro pins s σ H x y v u Q I rx ry h;let⟨i,j,rfl,rfl,hz,q⟩:=h;let⟨t,rfl⟩:=rx;let⟨t',rfl⟩:=ry;exact add_str (λt' tk=>⟨.str (i++j),H,I.tok _,⟨_,rfl⟩,q⟩) hz
def vals1(r:aR [x] us):∃u,us=[u]/\RelV x u:=by
 cases r with
 |cons r1 r2=>cases r2;exact⟨_,rfl,r1⟩
def vals2(r:aR [x,y] us):∃u w',us=[u,w']/\RelV x u/\RelV y w':=by
 cases r with
 |cons r1 r2=>
  cases r2 with
  |cons r3 r4=>cases r4;exact⟨_,_,rfl,r1,r3⟩
def Xf(K:ag)(x:V)(H:Hp)(n:Nat):Prop:=
 match x with
 |.str y=>y.length<=bp/\n=y.length
 |.byt y=>y.size<=bp/\n=y.size
 |.ref p=>(∃xs,SqL K H p xs/\n=xs.length)\/∃xs,SqT K H p xs/\n=xs.length
 |_=>False
def L0:iH X (.builtin "len") (λxs H Q=>∃x n,xs=[x]/\Xf X.K x H n/\Q (.int n) H):=by
 intro pins s σ H xs us Q I r h;let⟨x,n,rfl,e,q⟩:=h;let⟨u,rfl,rx⟩:=vals1 r;have hl:=qD;have hs:bp=16777216:=fm;cases x with
 |str y=>let⟨t,rfl⟩:=rx;obtain⟨hy,e'⟩:y.length<=bp/\n=y.length:=e;subst e';exact len_str ⋯ ⟨.int _,H,I.tok _,⟨_,rfl⟩,q⟩
 |byt y=>let⟨t,rfl⟩:=rx;obtain⟨hy,e'⟩:y.size<=bp/\n=y.size:=e;subst e';exact PySem.W.len_bytes ⋯ ⟨.int _,H,I.tok _,⟨_,rfl⟩,q⟩
 |ref p=>
  cases rx
  have e':(∃xs,SqL X.K H p xs/\n=xs.length)\/∃xs,SqT X.K H p xs/\n=xs.length:=e;rcases e' with⟨xs,hx,e'⟩|⟨xs,hx,e'⟩
  ·subst e';let⟨its,r',pl,hz⟩:=I.list hx;have hlen:=r'.length;exact Calls.call_len_list pl.isList (by simp only[bh];omega) ⟨.int xs.length,H,I.tok _,⟨_,by simp only[bh];rw[hlen]⟩,q⟩
  ·subst e';let⟨its,r',pl,hz⟩:=I.tuple hx;have hlen:=r'.length;exact len_tuple pl (by simp only[bh];omega) ⟨.int xs.length,H,I.tok _,⟨_,by simp only[bh];rw[hlen]⟩,q⟩
 |_=>exact(show False from e).elim
end
structure FB(h:t_)(x dx C:t7)(mA:o_ 0):Prop where
 obj:h.get? x=some (lj C dx)
 ns:h.Ns1 dx mA
 ne:dx≠x
def Jd{h:t_}{mA:o_ 0}(n:h.Ns1 dx mA):∃od,h.get? dx=a_ od/\∀name,PySem.W.lookIn name od=a_ (mA name):=by
 let⟨o,es,ep,ho,hd,hk,_,hm⟩:=n;refine⟨o,ho,λname=>?_⟩;have e:=hm name;unfold nsFind findBy at e;rw[<-Array.find?_toList]at e;unfold PySem.W.lookIn;rw[hd];dsimp only;split
 ·rename_i y q;rw[q]at e;exact congrArg a_ e
 ·rename_i q;rw[q]at e;have a:es.toList.any (·.refKey)=false:=by rw[List.any_eq_false];intro y hy;let⟨z,t,hkey⟩:=hk y (Array.mem_toList_iff.mp hy);simp[DictEntry.refKey,hkey]
  have a':¬ es.toList.any (·.refKey)=true:=by rw[a];exact cu
  rw[if_neg a'];exact congrArg a_ e
theorem FB.look{mA:o_ 0}(I:FB h x dx C mA):∃od,PySem.W.InstAt h x (lj C dx) C (a_ od)/\∀name,PySem.W.lookIn name od=a_ (mA name):=
 let ⟨od,ho,hl⟩:=Jd I.ns
 ⟨od,⟨I.obj,rfl,rfl,ho⟩,hl⟩
section
variable{prog:ub}{w:ua}{A:t9}{E:f_ 0}{s:tw}{K:ag}{x dx C f:t7}{mA:o_ 0}{name:Str}{v:s_}
def get_map{Q:f_ 0}(X:K.In s.heap)(I:FB s.heap x dx C mA)(hg:qx K C name=true)(hh:PySem.W.hasDictIn K C=true)(ha:fw K (.ref C) name=a_ b_)(hv:mA name=a_ v)(hv':PySem.W.handedIn v=true)(h:Q v { s with toks:=s.toks+1}):
  m_ prog w A (getAttr (.ref x) name expr) Q E s:=by
 let⟨od,J,hl⟩:=I.look;exact PySem.W.get_value X J (PySem.W.plainGet_of hg).1 (PySem.W.findObj_own hh ha rfl (by rw[hl,hv])) hv' h
def L1{Q:s_×ue s_->tw->Prop}(X:K.In s.heap)(I:FB s.heap x dx C mA)(hg:qx K C name=true)(hf:fw K (.ref C) name=a_ (c_ f))(ht:r6 K (.ref f)=true)(hv:mA name=b_)(h:Q (.ref f,[.ref x]) s):
  m_ prog w A (getMethod (.ref x) name pl) Q E s:=by
 let⟨od,J,hl⟩:=I.look;exact PySem.W.method_fn X J (PySem.W.plainGet_of hg).1 (PySem.W.plainGet_of hg).2 hf (beq_iff_eq.mp ht) (by show(PySem.W.lookIn name od).map (·.isSome)=a_ false;rw[hl,hv];rfl) h
def ON{ns:ue Str}{Q:j_ Unit}(X:K.In s.heap)(I:FB s.heap x dx C mA)
  (hs:fw K (.ref C) "__setattr__" = a_ (a_ (.builtin "object.__setattr__"))) (hp:PySem.W.plainOver K C=true) (ht:PySem.W.takerIn K C name=a_ b_) (hh:PySem.W.hasDictIn K C=true)
  (hw:PySem.Within mA ns) (hsz:ns.length<=bp)
  (h:∀h',FB h' x dx C (λy=>if y=name then a_ v else mA y)->mx dx s.heap h'->Q () {s with heap:=h',toks:=s.toks+2}):
  m_ prog w A (setAttr (.ref x) name v) Q E s:=by
 let⟨od,J,hl⟩:=I.look;refine PySem.W.set_plain X J hs (PySem.W.osa_open (s:={ s with toks:=s.toks+1}) (r:=b_) X J hp ht λb=>?_);let⟨cd,hc,hd'⟩:=PySem.W.any_some hh;have hx:s.heap.get? x=a_ ⟨.ref C,a_ dx,.plain,#[]⟩:=I.obj;refine aa (af (aa (aa (wpAny_loadPart hx (aa (PySem.W.Looks.here (s:={ s with toks:=s.toks+1}) (PySem.W.looks_clsIn X hc) ?_))))));rw[hd'];refine af (a:=a_ dx) (aa (af (aa ?_)));refine wpAny_nsSet1 (s:={ s with toks:=s.toks+1}) I.ns λh' hn2 hs2=>?_;let⟨oD,esD,epD,hoD,hdD,hcD⟩:=hn2.count (PySem.Within.cons name v hw);refine aa (wpAny_lookBehind hoD (by rw[hdD];exact pastItsLine_dict (fv hcD (by rw[dm];omega))) ?_);exact af (h _ ⟨(hs2.2 _ (iz I.ne)).trans I.obj,hn2,I.ne⟩ hs2)
def L3{R:j_ Result}(X:K.In s.heap)(hm:PySem.W.makesIn K C=true)(hi:fw K (.ref C) "__init__" = a_ (c_ f))(hf:PySem.W.typeIn K (.ref f)=a_ (.type "function"))(h:codeAny (model prog w) (A.under (.builtin "type.__call__" ⟨.ref C::vs,kw⟩)) (.call (.ref f) ⟨.ref (s.heap.objs.size+1)::vs,kw⟩) (PySem.W.InitBack (s.heap.objs.size+1) R)
   {s with heap:=(s.heap.push jj).push (lj C (e_ s))}):
  codeAny (model prog w) A (.call (.ref C) ⟨vs,kw⟩) R s:=by
 let⟨hh,g,d,t,os⟩:=s;exact PySem.W.make_core (PySem.W.makes_of X hm) (PySem.W.looks_findIn X hi) (λself=>PySem.W.bind_fn X self hf) (.inl rfl) h
end
def kH(f:Str)(v:V):ue (Str×V)->ue (Str×V)
 |[]=>[(f,v)]
 |(g,x)::r=>if g=f then(g,v)::r else(g,x)::kH f v r
theorem vJ(f g:Str)(v:V):∀fs:ue (Str×V),(kH f v fs).lookup g=if g=f then a_ v else fs.lookup g
 |[]=>by
  show tj g [(f,v)]=_
  by_cases h:g=f
  ·have hb:(g == f)=true:=beq_iff_eq.mpr h;simp only[tj,hb,if_pos h]
  ·have hb:(g == f)=false:=beq_eq_false_iff_ne.mpr h;simp only[tj,hb,if_neg h]
 |(k,x)::r=>by
  have ih:=vJ f g v r;rw[show kH f v ((k,x)::r)=(if k=f then(k,v)::r else(k,x)::kH f v r) from rfl]
  by_cases hk:k=f
  ·rw[if_pos hk];by_cases h:g=k
   ·have hb:(g == k)=true:=beq_iff_eq.mpr h;simp only[tj,hb,if_pos (h.trans hk)]
   ·have hb:(g == k)=false:=beq_eq_false_iff_ne.mpr h;simp only[tj,hb,if_neg (λe:g=f=>h (e.trans hk.symm))]
  ·rw[if_neg hk];by_cases h:g=k
   ·have hb:(g == k)=true:=beq_iff_eq.mpr h;simp only[tj,hb,if_neg (λe:g=f=>hk (h.symm.trans e))]
   ·have hb:(g == k)=false:=beq_eq_false_iff_ne.mpr h;simp only[tj,hb];exact ih
theorem tS(f:Str)(v:V):∀fs:ue (Str×V),f∈(kH f v fs).map (·.1)/\∀g,g∈fs.map (·.1)->g∈(kH f v fs).map (·.1)
 |[]=>⟨by simp[kH],λg h=>by simp at h⟩
 |(k,x)::r=>by
  let⟨i1,i2⟩:=tS f v r;rw[show kH f v ((k,x)::r)=(if k=f then(k,v)::r else(k,x)::kH f v r) from rfl]
  by_cases hk:k=f
  ·rw[if_pos hk];subst hk;exact⟨by simp,λg h=>by simpa using h⟩
  ·rw[if_neg hk];refine⟨?_,λg h=>?_⟩
   ·rw[dn];exact aj _ i1
   ·rw[dn]at h⊢;rcases bx.mp h with e|e
    ·exact bx.mpr (.inl e)
    ·exact aj _ (i2 g e)
theorem vK(f:Str)(v:V):∀fs:ue (Str×V),(kH f v fs).length<=fs.length+1
 |[]=>by simp[kH]
 |(k,x)::r=>by
  have ih:=vK f v r;rw[show kH f v ((k,x)::r)=(if k=f then(k,v)::r else(k,x)::kH f v r) from rfl]
  by_cases hk:k=f
  ·rw[if_pos hk,dm,dm];omega
  ·rw[if_neg hk,dm,dm];omega
theorem pN.some_of(r:pN (a_ v) o):∃u,o=a_ u/\RelV v u:=by
 cases o with
 |none=>exact(show False from r).elim
 |some u=>exact⟨u,rfl,r⟩
theorem pN.none_of(r:pN b_ o):o=b_:=by
 cases o with
 |none=>rfl
 |some u=>exact(show False from r).elim
def Je(r:RelV v u):PySem.W.handedIn u=true:=by
 cases v with
 |non=>cases(show u=cx from r);rfl
 |bl b=>cases(show u=Value.bool b from r);rfl
 |int i=>let⟨t,e⟩:=(show ∃t,u=Value.int i t from r);cases e;rfl
 |str x=>let⟨t,e⟩:=(show ∃t,u=Value.str x t from r);cases e;rfl
 |byt b=>let⟨t,e⟩:=(show ∃t,u=Value.bytes b t from r);cases e;rfl
 |flt b=>let⟨t,e⟩:=(show ∃t,u=Value.float b t from r);cases e;rfl
 |ref a=>cases(show u=dh a from r);rfl
 |ty n=>cases(show u=Value.type n from r);rfl
section
variable{P:ub}{w:ua}{H H':Hp}{h h':t_}{a C dx:t7}{fs fs':ue (Str×V)}
def BS(hok:HOk P w H h)(e:H a=a_ (.ins C dx fs)):∃mA,FB h a dx C mA/\(∀f,pN (fs.lookup f) (mA f))/\PySem.Within mA (fs.map (·.1))/\fs.length<=1000/\H dx=a_ (.own a):=by
 let⟨d,z,ne,ob,mA,n,r,q⟩:=(show dS P w H h a (.ins C dx fs) from hok a _ e)
 exact⟨mA,⟨ob,n,ne⟩,r,q,z,d⟩
end
structure Cls(K:ag)(C:t7):Prop where
 pg:qx K C Str.empty=true
 hd:PySem.W.hasDictIn K C=true
 po:PySem.W.plainOver K C=true
 sa:fw K (.ref C) "__setattr__" = some (some (.builtin "object.__setattr__"))
theorem Cls.get{K:ag}{C:t7}(c:Cls K C)(f:Str):qx K C f=true:=c.pg
def nM(K:ag)(C:t7)(f:Str):Prop:=fw K (.ref C) f=a_ b_
theorem nM.taker{K:ag}{C:t7}{f:Str}(n:nM K C f):PySem.W.takerIn K C f=a_ b_:=by
 unfold PySem.W.takerIn;rw[show fw K (.ref C) f=a_ b_ from n]
 rfl
structure Con(K:ag)(C:t7)(f:Str)(v:V)(u:s_):Prop where
 at_:fw K (.ref C) f=some (some u)
 rel:RelV v u
 get:PySem.W.specialIn K u "__get__" = some none
 cp:PySem.W.copiedNames.contains f=false
structure qZ(K:ag)(C:t7)(m:Str)(f:t7):Prop where
 at_:fw K (.ref C) m=some (c_ f)
 fn:r6 K (.ref f)=true
 kp:dg K (.ref f)=true
section
variable{X:Cx}{pins:g_ 0}{σ:St}{H:Hp}{s:tw}{a C dx:t7}{fs:ue (Str×V)}{f:Str}{v:V}{A:t9}{E:f_ 0}
def FC{Q:f_ 0}(I:Inv X pins σ H s)(e:H a=a_ (.ins C dx fs))(c:Cls X.K C)(n:nM X.K C f)(l:fs.lookup f=a_ v)(h:∀u s',Inv X pins σ H s'->RelV v u->Q u s'):wpAny (h_ X) A (getAttr (.ref a) f b) Q E s:=by let⟨mA,O,r,_,_,_⟩:=BS I.hok e;let⟨u,hu,ru⟩:=pN.some_of (v:=v) (o:=mA f) (by rw[<-l];exact r f);exact get_map I.kIn O (c.get f) c.hd n hu (Je ru) (h u _ (I.tok _) ru)
def xS{Q:s_×ue s_->tw->Prop}(I:Inv X pins σ H s)(e:H a=a_ (.ins C dx fs))(c:Cls X.K C)(k:qZ X.K C m g)(l:fs.lookup m=b_)(h:Q (.ref g,[.ref a]) s):wpAny (h_ X) A (getMethod (.ref a) m pl) Q E s:=by let⟨mA,O,r,_,_,_⟩:=BS I.hok e;have hn:mA m=b_:=pN.none_of (by rw[<-l];exact r m);exact L1 I.kIn O (c.get m) k.at_ k.fn hn h
def FD{Q:j_ Unit}(I:Inv X pins σ H s)(e:H a=a_ (.ins C dx fs))(c:Cls X.K C)(n:nM X.K C f)(hl:fs.length<1000)(ry:RelV y u)(h:∀s',Inv X pins σ (upd H a (.ins C dx (kH f y fs))) s'->Q () s'):wpAny (h_ X) A (setAttr (.ref a) f u) Q E s:=by
 let⟨mA,O,r,wi,_,ho⟩:=BS I.hok e;have hz:(fs.map (·.1)).length<=bp:=by rw[aq,fm];omega
 refine ON I.kIn O c.sa c.po n.taker c.hd wi hz λh' O' sb=>h _ ?_;have hd:∃o,h'.get? dx=a_ o:=let ⟨o,_,_,e',_⟩:=O'.ns;⟨o,e'⟩;refine I.write (x:=a) (e:=dx) (by rw[e];exact pe) (.inr ho) (λb q hb z=>(sb.2 b hb).trans z) hd ?_;refine⟨by rw[aV O.ne];exact ho,?_,O.ne,O'.obj,_,O'.ns,λg=>?_,λg hg=>?_⟩
 ·have:=vK f y fs;omega
 ·show pN ((kH f y fs).lookup g) (if g=f then a_ u else mA g)
  rw[vJ];by_cases q:g=f
  ·rw[if_pos q,if_pos q];exact ry
  ·rw[if_neg q,if_neg q];exact r g
 ·by_cases q:g=f
  ·rw[q];exact(tS f y fs).1
  ·refine(tS f y fs).2 g (wi g λz=>hg ?_)
   show(if g=f then a_ u else mA g)=b_
   rw[if_neg q];exact z
theorem Inv.made(I:Inv X pins σ H s):Inv X pins σ (upd (upd H (e_ s) (.own (s.heap.objs.size+1))) (s.heap.objs.size+1) (.ins C (e_ s) []))
  {s with heap:=(s.heap.push jj).push (lj C (e_ s))}:=by
 have e1:(s.heap.push jj).get? (e_ s)=a_ jj:=bo s.heap rfl;have e2:((s.heap.push jj).push (lj C (e_ s))).get? (s.heap.objs.size+1)=a_ (lj C (e_ s)):=by
  have:=bo (s.heap.push jj) (o:=lj C (e_ s)) rfl
  rwa[i4]at this
 have e3:(s.heap.push jj).Ns (e_ s) (λ_=>b_):=⟨jj,#[],_,e1,rfl,(λe he=>absurd he (by simp)),λ_=>rfl⟩;have I1:=I.laid (a:=(e_ s)) (o:=.own (s.heap.objs.size+1)) (h':=s.heap.push jj) (t':=s.toks) (λb u q=>ae _ q) (bq _) ⟨_,e1⟩;refine I1.laid (a:=(e_ s)+1) (o:=.ins C (e_ s) []) (t':=s.toks) (λb u q=>ae _ q) (Nat.le_of_eq (i4 _ _)) ?_;have ne:(e_ s)≠(e_ s)+1:=bu (qy _);refine⟨by rw[aV ne,bE],cv _,ne,e2,λ_=>b_,(Heap.Ns1.of_empty e3).at λo q=>ae _ q,λ_=>pe,λy hy=>absurd rfl hy⟩
def OO{Q:f_ 0}(hb:my e f env (eval e env)=eval e env)(h:m_ prog w A (eval e env) (λo s₁=>m_ prog w A (getAttr o f true) Q E s₁) E s):m_ prog w A (eval (.Attribute e f pos) env) Q E s:=Attribute_any_ h (by rw[arm_eval_Attribute,hb])
end
def Xg(K:ag)(ta:TE)(f:Str):TE:=λσ H Q=>ta σ H λx H1=>∃a C dx fs v,x=.ref a/\H1 a=a_ (.ins C dx fs)/\Cls K C/\nM K C f/\fs.lookup f=a_ v/\Q v H1
def Xh(K:ag)(ta tv:TE)(f:Str):TS:=λD σ H=>tv σ H λy H1=>ta σ H1 λx H2=>∃a C dx fs,x=.ref a/\H2 a=a_ (.ins C dx fs)/\Cls K C/\nM K C f/\fs.length<1000/\
 D.nx σ (upd H2 a (.ins C dx (kH f y fs)))
section
variable{X:Cx}{o e value:uc}{f:Str}{pos pos' tpos:Pos}{ta tv:TE}
def SH(he:PE X e ta)(hb:my e f X.env (eval e X.env)=eval e X.env):PE X (.Attribute e f pos) (Xg X.K ta f):=by intro pins s σ H Q I h;refine OO hb (thn (he pins s σ H _ I h) λu s1 hz=>?_);let⟨x,H1,I1,rx,a,C,dx,fs,v,ex,ea,c,n,l,q⟩:=hz;subst ex;obtain rfl:u=dh a:=rx;exact FC I1 ea c n l λu' s2 I2 ru=>⟨v,H1,I2,ru,q⟩
def SJ(ha:PE X o ta)(hv:PE X value tv)(hs:swapsWith value (a_ (.Attribute o f pos')) pos.line X.env=pure false):PS X (.Assign [.Attribute o f pos'] value pos) (Xh X.K ta tv f):=by intro pins s σ H D I h;refine plainObj_wpAny_Assign_Attribute (thn (hv pins s σ H _ I h) λu s1 ⟨y,H1,I1,ry,q⟩=>thn (ha pins s1 σ H1 _ I1 q) λov s2 hz=>?_) hs;let⟨x,H2,I2,rx,a,C,dx,fs,ex,ea,c,n,l,q2⟩:=hz;subst ex;obtain rfl:ov=dh a:=rx;exact FD I2 ea c n l ry λs3 I3=>⟨σ,_,I3,q2⟩
end
section
variable{X:Cx}{pins:g_ 0}{σ:St}{H:Hp}{s:tw}{A:t9}{E:f_ 0}{Q:f_ 0}{c:s_}{b:Bool}
inductive xT(K:ag)(H:Hp):V->Value->Prop where
 |non:xT K H .non (.type "NoneType")
 |bl (x:Bool):xT K H (.bl x) (.type "bool")
 |int (i:Int):xT K H (.int i) (.type "int")
 |str (x:Str):xT K H (.str x) (.type "str")
 |flt (x:UInt64):xT K H (.flt x) (.type "float")
 |lst {a:Addr} {xs:ue V} (e:H a=some (.lst xs)):xT K H (.ref a) (.type "list")
 |frz {a:Addr} {o:Obj} {xs:ue V} (e:H a=some (.frz o (.lst xs))):xT K H (.ref a) (.type "list")
 |tup {a:Addr} {xs:ue V} (e:H a=some (.tup xs)):xT K H (.ref a) (.type "tuple")
 |dK {a:Addr} {kvs:ue (Key×V)} (e:H a=some (.dK kvs)):xT K H (.ref a) (.type "dict")
 |dT {a:Addr} {kvs:ue (ue Key×V)} (e:H a=some (.dT kvs)):xT K H (.ref a) (.type "dict")
 | ins {a C dx:Addr} {fs:ue (Str×V)} (e:H a=some (.ins C dx fs)) (cl:Cls K C) (ha:fw K (.ref C) "__class__" = some (some (.builtin "object.__class__")))
   (hn:PySem.W.specialIn K (.builtin "object.__class__") "__get__" = some (some (.builtin "getset_descriptor.__get__"))) (htk:PySem.W.takesIn K (.builtin "object.__class__")=some true)
   (hm:PySem.W.mroIn K C (.type "object")=some true):xT K H (.ref a) (.ref C)
end
structure gG(k:Nat)(A:t9):Prop where
 hd:A.handled=none
 dp:A.depth+3*k+5<recursionLimit
 un:A.units+16*k+200<cLine
theorem gG.mono(r:gG k A)(h:j<=k):gG j A:=⟨r.hd,by have:=r.dp;omega,by have:=r.un;omega⟩
theorem gG.deeper{A:t9}(r:gG (k+1) A)(env:Env):gG k (A.deeper env):=⟨r.hd,by have:=r.dp;show A.depth+1+3*k+5<_;omega,by have:=r.un;show A.units+3+16*k+200<_;omega⟩
theorem gG.in1{A:t9}(r:gG (k+1) A):gG k A.in1:=⟨r.hd,by have:=r.dp;show A.depth+3*k+5<_;omega,by have:=r.un;show A.units+1+16*k+200<_;omega⟩
def FF{A:t9}:(A.under (.builtin "type.__call__" ⟨.ref C::us,kw⟩)).depth=A.depth+1:=by first|rfl|simp[Around.under,Code.weight,Code.isCreation,Code.isGuard,Code.isCaller,Code.frames,Code.isFrame,guardIds]
def FG{A:t9}:(A.under (.builtin "type.__call__" ⟨.ref C::us,kw⟩)).units=A.units+1:=by first|rfl|simp[Around.under,Code.cUnits,Code.frames,Code.isFrame]
theorem gG.make{A:t9}(r:gG (k+1) A)(C:t7)(us:ue s_)(kw:ue (Str×s_)):gG k (A.under (.builtin "type.__call__" ⟨.ref C::us,kw⟩)):=⟨r.hd,by have:=r.dp;rw[FF];omega,by have:=r.un;rw[FG];omega⟩
theorem gG.depth{A:t9}(r:gG k A):A.depth<recursionLimit:=by have:=r.dp;omega
theorem gG.units{A:t9}(r:gG k A):A.units+64<cLine:=by have:=r.un;omega
def SK:TA:=λ_ H Q=>Q [] H
def RA(ta:TE)(tr:TA):TA:=λσ H Q=>ta σ H λx H1=>tr σ H1 λxs H2=>Q (x::xs) H2
section
variable{X:Cx}{e:uc}{es:ue uc}{te:TE}{t:TA}{pos:Pos}
def L4:PA X [] SK:=λ_ _ _ _ H Q I h=>Calls.spliced_nil ⟨[],H,I,.nil,h⟩
def HG(ha:PE X e te)(hr:PA X es t)(hs:da (e::es) X.env=(false,eval e X.env)::da es X.env:=by rfl):PA X (e::es) (RA te t):=by
 intro pos pins s σ H Q I h;rw[hs]
 show wpAny _ _ (spliced ((false,eval e X.env)::backTo pos (da es X.env))) _ _ s
 refine Calls.spliced_cons (thn (ha pins s σ H _ I h) λu s1 hz=>?_);let⟨x,H1,I1,r1,q1⟩:=hz;exact thn (hr pos pins s1 σ H1 _ I1 q1) λus s2 ⟨xs,H2,I2,r2,q2⟩=>⟨x::xs,H2,I2,.cons r1 r2,q2⟩
def Xi(t:TA):TE:=λσ H Q=>t σ H λxs H1=>xs.length<=bp/\∀p,H1 p=b_->Q (.ref p) (upd H1 p (.tup xs))
def Xj(t:TA):TE:=λσ H Q=>t σ H λxs H1=>xs.length<=bp/\∀p,H1 p=b_->Q (.ref p) (upd H1 p (.lst xs))
def SL{x1}(h:PA X es t):PE X (.Tuple es x1 pos) (Xi t):=by intro pins s σ H Q I hq;refine wpAny_Tuple_spliced (thn (h pos pins s σ H _ I hq) λus s1 ⟨xs,H1,I1,r,z,q⟩=>⟨by rw[<-r.length];exact z,?_⟩);have hf:H1 (e_ s1)=b_:=I1.hok.fresh (bq _);refine⟨.ref (e_ s1),upd H1 (e_ s1) (.tup xs),I1.laid (t':=s1.toks) (λb u e=>ae _ e) (bq _) ?_,rfl,q _ hf⟩;exact⟨z,us,r,⟨_,bo _ rfl,rfl,⟨_,rfl⟩,rfl⟩⟩
def SM(h:PA X es t):PE X (.List es pos) (Xj t):=by intro pins s σ H Q I hq;refine wpAny_List_spliced (thn (h pos pins s σ H _ I hq) λus s1 ⟨xs,H1,I1,r,z,q⟩=>⟨by rw[<-r.length];exact z,?_⟩);have hf:H1 (e_ s1)=b_:=I1.hok.fresh (bq _);refine⟨.ref (e_ s1),upd H1 (e_ s1) (.lst xs),I1.laid (t':=s1.toks) (λb u e=>ae _ e) (bq _) ?_,rfl,q _ hf⟩;exact⟨z,us,0,r,bo _ rfl⟩
end
abbrev Sp:=ue V->Hp->VK->XK->Prop
abbrev CXT:=ue Env->Hp->tw->XK->f_ 0
structure A7(P:ub)(w:ua)(K:ag)(mg:o_ 0)(base:t_)(A:t9)(outer:ue Env)(s:tw)(H:Hp):Prop where
 frames:A.frames=some outer
 mod:Mod K mg base
 bs:∀b o,base.get? b=some o->s.heap.get? b=some o/\H b=none
 bsz:base.objs.size<=(e_ s)
 funs:s.heap.FunFrames base outer
 frf:∀b∈frs outer,H b=none
 hok:HOk P w H s.heap
 bare:AllBare s.gens
def CE(outer:ue Env)(P:ub)(w:ua)(H:Hp)(s:tw)(Q:VK)(u:s_)(s':tw):Prop:=
 ∃v H',s'.os=s.os/\AllBare s'.gens/\Un (frs outer) [] H H' s.heap s'.heap/\HOk P w H' s'.heap/\RelV v u/\Q v H'
def CR(CX:CXT)(outer:ue Env)(P:ub)(w:ua)(H:Hp)(s:tw)(Q:VK)(E:XK)(r:Result)(s':tw):Prop:=
 match r with
 |.ok (.ret u)=>CE outer P w H s Q u s'
 |.ok _=>False
 |.error e=>CX outer H s E e s'
structure bA(P:ub)(w:ua)(K:ag)(mg:o_ 0)(base:t_)(CX:CXT)(k:Nat)(f:t7)(fd:e7)(ps:ue Str)(sp:Sp):Prop where
 len:∀vs H Q E,sp vs H Q E->vs.length=ps.length
 run:∀(A:t9)(outer:ue Env)(s:tw)(H:Hp)(args:Args)(us:ue s_)(vs:ue V)(Q:VK)(E:XK),gG k A->A7 P w K mg base A outer s H->BindsTo s fd args (ps.zip us)->aR vs us->sp vs H Q E->
  codeAny (model P w) A (.call (.ref f) args) (CR CX outer P w H s Q E) s
theorem bA.imp{P:ub}{w:ua}{K:ag}{mg:o_ 0}{base:t_}{CX:CXT}{k:Nat}{f:t7}{fd:e7}{ps:ue Str}{sp sp':Sp}(F:bA P w K mg base CX k f fd ps sp)
  (h:∀vs H Q E,sp' vs H Q E->sp vs H Q E):bA P w K mg base CX k f fd ps sp':=
 ⟨λvs H Q E q=>F.len vs H Q E (h _ _ _ _ q),λA outer s H args us vs Q E hr he hb hv hs=>F.run A outer s H args us vs Q E hr he hb hv (h _ _ _ _ hs)⟩
theorem A7.make{P:ub}{w:ua}{K:ag}{mg:o_ 0}{base:t_}{A:t9}{outer:ue Env}{s:tw}{H:Hp}(e:A7 P w K mg base A outer s H)(C:t7)(us:ue s_)(kw:ue (Str×s_)):
  A7 P w K mg base (A.under (.builtin "type.__call__" ⟨.ref C::us,kw⟩)) outer s H:=⟨by first|exact e.frames|(simpa[Around.under,Code.envs,Code.isFrame,pushEnvs] using e.frames),e.mod,e.bs,e.bsz,e.funs,e.frf,e.hok,e.bare⟩
theorem A7.in1{P:ub}{w:ua}{K:ag}{mg:o_ 0}{base:t_}{A:t9}{outer:ue Env}{s:tw}{H:Hp}(e:A7 P w K mg base A outer s H):
  A7 P w K mg base A.in1 outer s H:=⟨e.frames,e.mod,e.bs,e.bsz,e.funs,e.frf,e.hok,e.bare⟩
section
variable{X:Cx}{pins:g_ 0}{σ:St}{H:Hp}{s s':tw}
theorem Inv.env0(I:Inv X pins σ H s):A7 X.prog X.w X.K X.mg X.base X.A X.stack s H:=⟨I.ok.frames,I.ok.mod,I.bs,fv I.ok.bsz I.sz,I.stack,I.stkFree,I.hok,I.bare⟩
theorem Inv.after(I:Inv X pins σ H s)(h:CE X.stack X.prog X.w H s Q u s'):EP X pins σ Q u s':=by let⟨v,H',os,bare,un,hok,r,q⟩:=h;let⟨hh,g,d,t,os'⟩:=s';obtain rfl:os'=s.os:=os;exact⟨v,H',I.call (h':=hh) (g':=g) (d':=d) (t':=t) (ch:=[]) un hok bare (λb z=>absurd z (by simp)),r,q⟩
end
def RB(sp:Sp)(dvs:ue V)(E:XK)(t:TA):TE:=λσ H Q=>t σ H λvs H1=>sp (vs++dvs) H1 Q E
def V9(C:t7)(sp:Sp)(dvs:ue V)(E:XK)(t:TA):TE:=λσ H Q=>t σ H λvs H1=>∀x dx,H1 x=b_->H1 dx=b_->dx≠x->
 sp (.ref x::(vs++dvs)) (upd (upd H1 dx (.own x)) x (.ins C dx [])) (λv H2=>v=.non/\Q (.ref x) H2) E
def Binds(K:ag)(fd:e7)(ps:ue Str)(ds:ue s_):Prop:=
 ∀(s:tw)(us:ue s_),K.In s.heap->(us++ds).length=ps.length->BindsTo s fd ⟨us,[]⟩ (ps.zip (us++ds))
theorem Binds.all{K:ag}{fd:e7}{ps:ue Str}(h:∀us:ue s_,us.length=ps.length->bindArgs fd ⟨us,[]⟩=pure (ps.zip us)):Binds K fd ps []:=λs us _ hl=>by rw[dz]at hl⊢;exact .of_eq (h us hl)
def xU(CX:CXT)(X:Cx)(E:XK):Prop:=∀(pins:g_ 0)(σ:St)(H:Hp)(s:tw)(e:s_)(s':tw),Inv X pins σ H s->CX X.stack H s E e s'->X.xe e s'
section
variable{X:Cx}{CX:CXT}{k:Nat}{f C:t7}{fd:e7}{ps:ue Str}{sp:Sp}{dvs:ue V}{ds:ue s_}{E:XK}{x m:Str}{p pos apos:Pos}{e o:uc}{es:ue uc}{ta:TE}{t:TA}
def FH{pins:g_ 0}{σ:St}{H:Hp}{s:tw}{Q:VK}{us:ue s_}{vs:ue V}(F:bA X.prog X.w X.K X.mg X.base CX k f fd ps sp)(hr:gG k X.A)(hb:Binds X.K fd ps ds)(hd:aR dvs ds)(hx:xU CX X E)
  (I:Inv X pins σ H s) (r:aR vs us) (h:sp (vs++dvs) H Q E):wpAny (h_ X) X.A (call (.ref f) us) (EP X pins σ Q) X.xe s:=by
 have r2:aR (vs++dvs) (us++ds):=r.append hd;have hl:(us++ds).length=ps.length:=by rw[<-r2.length];exact F.len _ _ _ _ h
 refine wpAny_call (codeAny_mono (F.run X.A X.stack s H ⟨us,[]⟩ (us++ds) (vs++dvs) Q E hr I.env0 (hb s us I.kIn hl) r2 h) λr s' hq=>?_);cases r with
 |error e=>exact hx pins σ H s e s' I hq
 |ok fl=>
  cases fl with
  |ret u=>exact I.after hq
  |next=>exact j8 hq
  |brk=>exact j8 hq
  |cont=>exact j8 hq
def OP(F:bA X.prog X.w X.K X.mg X.base CX k f fd ps sp)(hr:gG k X.A)(hg:Gl X x)(hm:X.mg x=c_ f)(hk:dg X.K (.ref f)=true)(hb:Binds X.K fd ps ds)(hd:aR dvs ds)(hx:xU CX X E)
  (ha:PA X (e::es) t) (hdb:(x == ("__debug__" : Str))=false:=by decide) (he:da (e::es) X.env=(false,eval e X.env)::da es X.env:=by rfl) (hpl:(backTo pos (da es X.env)).any (·.1)=false:=by rfl):
  PE X (.Call (.Name x p) (e::es) [] pos) (RB sp dvs E t):=by
 intro pins s σ H Q I h;refine p4 (BR I hg hm ?_ hdb);refine PySem.W.callWith_K (h₀:=X.base) I.ok.mod.kin hk (thn (ha pos pins s σ H _ I h) λus s1 ⟨vs,H1,I1,r,q⟩=>⟨I1.kIn,?_⟩) he hpl;exact FH F hr hb hd hx I1 r q
structure Mk(K:ag)(C f:t7):Prop where
 makes:PySem.W.makesIn K C=true
 init:fw K (.ref C) "__init__" = some (c_ f)
 fn:r6 K (.ref f)=true
 kp:dg K (.ref C)=true
def L5{pins:g_ 0}{σ:St}{H:Hp}{s:tw}{Q:VK}{us:ue s_}{vs:ue V}(M:Mk X.K C f)(F:bA X.prog X.w X.K X.mg X.base CX k f fd ps sp)(hr:gG (k+1) X.A)(hb:Binds X.K fd ps ds)(hd:aR dvs ds)
  (hx:xU CX X E) (I:Inv X pins σ H s) (r:aR vs us)
  (h:∀x dx,H x=b_->H dx=b_->dx≠x->sp (.ref x::(vs++dvs)) (upd (upd H dx (.own x)) x (.ins C dx [])) (λv H2=>v=.non/\Q (.ref x) H2) E):
  wpAny (h_ X) X.A (call (.ref C) us) (EP X pins σ Q) X.xe s:=by
 have hq:=h (s.heap.objs.size+1) (e_ s) (I.hok.fresh (Nat.le_succ _)) (I.hok.fresh (bq _)) (bu (qy _));have I2:=Inv.made (C:=C) I;have r2:aR (V.ref (s.heap.objs.size+1)::(vs++dvs)) (dh (s.heap.objs.size+1)::(us++ds)):=.cons rfl (r.append hd);have hl:(dh (s.heap.objs.size+1)::us++ds).length=ps.length:=by have e:=r2.length;rw[F.len _ _ _ _ hq]at e;exact e.symm
 refine wpAny_call (L3 (f:=f) I.kIn M.makes M.init (beq_iff_eq.mp M.fn) (codeAny_mono (F.run _ X.stack _ _ ⟨dh (s.heap.objs.size+1)::us,[]⟩ (dh (s.heap.objs.size+1)::(us++ds)) _ _ E (hr.make C us [])
  (I2.env0.make C us []) (hb _ (dh (s.heap.objs.size+1)::us) I2.kIn hl) r2 hq) λr s' hq'=>?_))
 cases r with
 |error e=>exact hx pins σ _ _ e s' I2 hq'
 |ok fl=>
  cases fl with
  |ret u=>let⟨v,H',I3,rv,ev,q3⟩:=I2.after hq';subst ev;exact⟨rv,⟨V.ref (s.heap.objs.size+1),H',I3,rfl,q3⟩⟩
  |next=>exact j8 hq'
  |brk=>exact j8 hq'
  |cont=>exact j8 hq'
def L6(M:Mk X.K C f)(F:bA X.prog X.w X.K X.mg X.base CX k f fd ps sp)(hr:gG (k+1) X.A)(hg:Gl X x)(hm:X.mg x=c_ C)(hb:Binds X.K fd ps ds)(hd:aR dvs ds)(hx:xU CX X E)
  (hdb:(x == ("__debug__" : Str))=false:=by decide):PE X (.Call (.Name x p) [] [] pos) (V9 C sp dvs E SK):=by
 intro pins s σ H Q I h;refine p4 (BR I hg hm ?_ hdb);exact PySem.W.callWith_K0 I.kIn M.kp (L5 (us:=[]) M F hr hb hd hx I .nil h)
end
section
variable{X:Cx}{CX:CXT}{k:Nat}{f C:t7}{fd:e7}{ps ks:ue Str}{sp:Sp}{E:XK}{x m:Str}{p pos apos kpos:Pos}{e o:uc}{es:ue uc}{kws:ue Keyword}{te ta:TE}{t tk:TA}{nm:uf Str}
structure Xk(K:ag)(fd:e7)(ps ks:ue Str)(g:ue s_->ue s_->ue s_)(gV:ue V->ue V->ue V):Prop where
 to:∀(s:tw)(us ws:ue s_),K.In s.heap->(g us ws).length=ps.length->BindsTo s fd ⟨us,ks.zip ws⟩ (ps.zip (g us ws))
 rel:∀{vs:ue V}{us:ue s_}{zs:ue V}{ws:ue s_},aR vs us->aR zs ws->aR (gV vs zs) (g us ws)
variable{g:ue s_->ue s_->ue s_}{gV:ue V->ue V->ue V}
end
structure bL(N P:ue Str)(sc:Scope):Prop where
 kind:sc.kind=.function
 co:sc.isCoroutine=false
 gen:sc.isGenerator=false
 nd:N.Nodup
 pre:N.take P.length=P
 par:∀x∈P,sc.names.lookup x=some .local\/sc.names.lookup x=some .cell
 nofree:∀y∈sc.names,y.2≠.free
theorem AL{kindOf:Str->uf p7}:∀{binds:ue (Str×s_)}{m:o_ 0},(∀v,(x,v)∉binds)->bindL kindOf binds m x=m x
 |[],_,_=>rfl
 |(n,v)::r,m,h=>by
  unfold bindL;rw[AL λw hw=>h w (aj _ hw)];split
  ·have:x≠n:=by rintro rfl;exact h v aw
   simp[this]
  ·rfl
theorem AM{kindOf:Str->uf p7}:∀{binds:ue (Str×s_)}{m:o_ 0},(∀v,(x,v)∉binds)->bindC kindOf binds m x=m x
 |[],_,_=>rfl
 |(n,v)::r,m,h=>by
  unfold bindC;rw[AM λw hw=>h w (aj _ hw)];split
  ·rfl
  ·have:x≠n:=by rintro rfl;exact h v aw
   simp[this]
theorem AN{kindOf:Str->uf p7}:∀{P:ue Str}{vs:ue s_}{i:Nat}{m:o_ 0},P.Nodup->P[i]?=a_ x->vs[i]?=a_ v->kindOf x=a_ .local->
  bindL kindOf (P.zip vs) m x=a_ v
 |[],_,_,_,_,h,_,_=>by simp at h
 |_::_,[],_,_,_,_,h,_=>by simp at h
 |p::P,w::vs,0,m,nd,h1,h2,hk=>by
  simp at h1 h2;subst h1;subst h2
  show bindL kindOf ((p,w)::P.zip vs) m p=_
  unfold bindL;rw[AL λv hv=>(ip.mp nd).1 (List.of_mem_zip hv).1,if_pos hk];simp
 |p::P,w::vs,i+1,m,nd,h1,h2,hk=>by
  show bindL kindOf ((p,w)::P.zip vs) m x=_
  unfold bindL;exact AN (i:=i) (ip.mp nd).2 (l_ h1) (l_ h2) hk
theorem AQ{kindOf:Str->uf p7}:∀{P:ue Str}{vs:ue s_}{i:Nat}{m:o_ 0},P.Nodup->P[i]?=a_ x->vs[i]?=a_ v->kindOf x≠a_ .local->
  bindC kindOf (P.zip vs) m x=a_ v
 |[],_,_,_,_,h,_,_=>by simp at h
 |_::_,[],_,_,_,_,h,_=>by simp at h
 |p::P,w::vs,0,m,nd,h1,h2,hk=>by
  simp at h1 h2;subst h1;subst h2
  show bindC kindOf ((p,w)::P.zip vs) m p=_
  unfold bindC;rw[AM λv hv=>(ip.mp nd).1 (List.of_mem_zip hv).1,if_neg hk];simp
 |p::P,w::vs,i+1,m,nd,h1,h2,hk=>by
  show bindC kindOf ((p,w)::P.zip vs) m x=_
  unfold bindC;exact AQ (i:=i) (ip.mp nd).2 (l_ h1) (l_ h2) hk
def start(N:ue Str)(vs:ue V):St:=vs.map a_++pf (N.length-vs.length) b_
def FJ(CX:CXT)(P:ub)(w:ua)(K:ag)(mg:o_ 0)(base:t_)(N:ue Str)(qual:Str)(scope:Scope)(f:t7)(cd:s_)(A:t9)(outer:ue Env)(s:tw)(H:Hp)(E:XK):Cx where
 prog:=P
 w:=w
 K:=K
 mg:=mg
 base:=base
 A:=A.deeper (envOfC qual scope (e_ s) f cd)
 N:=N
 s₀:=s
 H₀:=H
 env:=envOfC qual scope (e_ s) f cd
 outer:=outer
 stack:=envOfC qual scope (e_ s) f cd::outer
 ex:=[]
 calm:=true
 fn:=λ_=>true
 pn:=[]
 xe:=λe s'=>wpAny (model P w) (A.deeper (envOfC qual scope (e_ s) f cd)) (leaving (envOfC qual scope (e_ s) f cd) e) (λ_ s''=>CX outer H s E e s'') (λe' s''=>CX outer H s E e' s'') s'
def DC{sc:Scope}(h:sc.names.lookup x=a_ .cell):∃c,(iq n sc.names []).lookup x=a_ c:=by have q:=PySem.W.cellsFrom_some sc.names n [] (.inl h);exact ko.mp q
def Jf{CX:CXT}{P:ub}{w:ua}{K:ag}{mg:o_ 0}{base:t_}{N ps:ue Str}{qual:Str}{scope:Scope}{f:t7}{cd:s_}{A:t9}{outer:ue Env}{s s1:tw}{H:Hp}{E:XK}{us:ue s_}{vs:ue V}
  (S:bL N ps scope) (hd:A.handled=b_) (e0:A7 P w K mg base A outer s H) (hl:vs.length=ps.length) (r:aR vs us)
  (x:InCallC s (e_ s) (bindL (envOfC qual scope (e_ s) f cd).kindOf (ps.zip us) λ_=>b_) (iq (s.heap.objs.size+1) scope.names []) (bindC (envOfC qual scope (e_ s) f cd).kindOf (ps.zip us) λ_=>b_) s1):
  Inv (FJ CX P w K mg base N qual scope f cd A outer s H E) [] (start N vs) H s1:=by
 have hpl:ps.length<=N.length:=by have:=congrArg List.length S.pre;rw[cf]at this;omega
 let⟨h1,tk,rfl,hk⟩:=x.done;have noA:∀b:t7,b∉(FJ CX P w K mg base N qual scope f cd A outer s H E).ex:=λb z=>absurd (show b∈([]:ue t7) from z) (by simp)
 refine⟨⟨e0.mod,S.kind,rfl,rfl,bq _,λy z c h1 h2=>?_,λy hy=>?_,λy c _ h=>?_,λ_=>hd,Around.frames_deeper e0.frames,.inr ⟨rfl,rfl⟩,λb z=>absurd z (noA b),e0.bs,e0.bsz,λb _ _=>noA b,λb z=>absurd z (noA b),e0.funs,e0.frf⟩,
  rfl,e0.bare,Un.kept hk,⟨_,x.toInCall.ns,λi y v h1 h2 h3=>?_⟩,λy c h=>⟨_,x.cell y c h⟩,e0.hok.fresh (bq _),λy c h=>?_,λp hp=>absurd (show p∈([]:g_ 0) from hp) (by simp),e0.hok.kept hk,?_⟩
 ·exact name_of_addr x.apart (ot h1) (ot h2)
 ·have hy:scope.names.lookup y=a_ .cell\/scope.names.lookup y=a_ .free:=hy;rcases hy with hy|hy
  ·exact DC hy
  ·exact absurd rfl (S.nofree _ (ot hy))
 ·exact oi (x.above y c (ot h))
 ·have hi:i<vs.length:=by
   unfold start at h2;by_cases hi:i<vs.length
   ·exact hi
   ·rw[au (l_ hi)]at h2;rw[List.getElem?_replicate]at h2;split at h2 <;> cases h2
  have ha:vs[i]?=a_ v:=by
   unfold start at h2;rw[b9 (l_ hi),ar]at h2;cases e:vs[i]? with
   |none=>rw[e]at h2;cases h2
   |some a=>rw[e]at h2;cases h2;rfl
  let⟨u,hu,rv⟩:=r.get ha;have hp:ps[i]?=a_ y:=by rw[<-S.pre,List.getElem?_take_of_lt ⋯];exact h1
  have ndP:ps.Nodup:=by rw[<-S.pre];exact S.nd.sublist (List.take_sublist _ _)
  refine⟨u,rv,?_⟩;rcases S.par y (cq hp) with k|k
  ·exact .inl ⟨k,AN ndP hp hu k⟩
  ·let⟨c,e⟩:=DC (n:=(e_ s)+1) k;refine .inr ⟨.inl k,c,e,?_⟩;have q:=x.cell y c e;rw[AQ ndP hp hu (by show scope.names.lookup y≠_;rw[k];decide)]at q;exact q
 ·exact e0.hok.fresh (oi (x.above y c (ot h)))
 ·unfold start
  show _=N.length
  rw[az,aq,List.length_replicate];omega
def V'{CX:CXT}{P:ub}{w:ua}{K:ag}{mg:o_ 0}{base:t_}{k:Nat}{f:t7}{name qual:Str}{params:Arguments}{body:ue ud}{scope:Scope}{dV kV doc pm cdv ct oc:s_}{an od:uf t7}
  {osl:n_ 0} {N ps:ue Str} {sp:Sp} (lk:K.lookup f=a_ ⟨oc,od,.func (dw name qual params body scope dV kV doc pm an cdv ct),osl⟩) (hcd:d0 K cdv qual=true) (S:bL N ps scope)
  (len:∀vs H Q E,sp vs H Q E->vs.length=ps.length)
  (hbody:∀(A:t9)(outer:ue Env)(s:tw)(H:Hp)(vs:ue V)(Q:VK)(E:XK),gG k (A.deeper (envOfC qual scope (e_ s) f cdv))->sp vs H Q E->
   ∃t,PSs (FJ CX P w K mg base N qual scope f cdv A outer s H E) body t/\t { nx:=λ_ H'=>Q .non H',rt:=Q} (start N vs) H):
  bA P w K mg base CX (k+1) f (dw name qual params body scope dV kV doc pm an cdv ct) ps sp:=by
 refine⟨len,λA outer s H args us vs Q E hr e0 hb r hsp=>?_⟩;have hl:=len _ _ _ _ hsp;have KX:K.In s.heap:=e0.mod.kin.keeps λb o e=>(e0.bs b o e).1;have lim:s.heap.NoLimit:=e0.mod.nolimit.keeps λb o e=>(e0.bs b o e).1;have hkind:∀y∈ps.zip us,scope.names.lookup y.1=a_ .local\/(scope.names.lookup y.1=a_ .cell/\((iq (s.heap.objs.size+1) scope.names []).lookup y.1).isSome=true):=λ⟨n,v⟩ hy=>by
  rcases S.par n (List.of_mem_zip hy).1 with q|q
  ·exact .inl q
  ·exact .inr ⟨q,PySem.W.cellsFrom_some _ _ _ (.inl q)⟩
 refine codeAny_call_function hr.depth (KX _ _ lk) rfl S.co S.gen rfl (PySem.W.codeRec_of KX hcd) (hb _ _ _ _ ?_);refine wpAny_newFunctionEnv_cells S.kind hkind λenv he s1 x=>?_;subst he;refine⟨lim.keeps x.toInCall.keep,codeAny_func ?_⟩;let⟨t,ht,hq⟩:=hbody A outer s H vs Q E (hr.deeper _) hsp;have I:Inv (FJ CX P w K mg base N qual scope f cdv A outer s H E) [] (start N vs) H s1:=Jf S hr.hd e0 hl r x;refine ji (ht [] s1 (start N vs) H _ I hq) (λfl s' hs=>?_) λe s' hs=>hs;have fin:∀{σ':St}{H':Hp}{v:V}{u:s_},Inv (FJ CX P w K mg base N qual scope f cdv A outer s H E) [] σ' H' s'->RelV v u->Q v H'->CE outer P w H s Q u s':=
  λ{σ' H' v u} J rv q=>⟨v,H',J.os,J.bare,J.base,J.hok,rv,q⟩
 cases fl with
 |ret u=>let⟨v,σ',H',J,rv,q⟩:=hs;exact fin J rv q
 |next=>let⟨σ',H',J,q⟩:=hs;exact fin (v:=V.non) (u:=cx) J rfl q
 |brk=>let⟨_,_,_,q⟩:=hs;exact j8 q
 |cont=>let⟨_,_,_,q⟩:=hs;exact j8 q
section
variable{X:Cx}{x:Str}{p pos:Pos}{e:uc}{es:ue uc}{t:TA}{id T:String}{r:ue V->Hp->VK->Prop}
def tCB(r:ue V->Hp->VK->Prop)(t:TA):TE:=λσ H Q=>t σ H λvs H1=>r vs H1 Q
def L7(hc:iH X (.builtin id) r)(hg:Gl X x)(hm:X.mg x=b_)(hv:qc x=a_ (.builtin id))(ha:PA X (e::es) t)(hn:x≠"__name__" := by decide)(hdb:(x == ("__debug__" : Str))=false:=by decide)
  (he:da (e::es) X.env=(false,eval e X.env)::da es X.env:=by rfl) (hpl:(backTo pos (da es X.env)).any (·.1)=false:=by rfl):PE X (.Call (.Name x p) (e::es) [] pos) (tCB r t):=by
 intro pins s σ H Q I h;refine p4 (tR I hg hm hv ?_ hn hdb);exact PyProof.Rows.callWith_builtin1 (thn (ha pos pins s σ H _ I h) λus s1 ⟨vs,H1,I1,r1,q1⟩=>hc pins s1 σ H1 vs us Q I1 r1 q1) he hpl
def Jg(hc:iH X (.type T) r)(hg:Gl X x)(hm:X.mg x=b_)(hv:qc x=a_ (.type T))(ha:PA X (e::es) t)(hn:x≠"__name__" := by decide)(hdb:(x == ("__debug__" : Str))=false:=by decide)
  (he:da (e::es) X.env=(false,eval e X.env)::da es X.env:=by rfl) (hpl:(backTo pos (da es X.env)).any (·.1)=false:=by rfl):PE X (.Call (.Name x p) (e::es) [] pos) (tCB r t):=by
 intro pins s σ H Q I h;refine p4 (tR I hg hm hv ?_ hn hdb);exact lu (thn (ha pos pins s σ H _ I h) λus s1 ⟨vs,H1,I1,r1,q1⟩=>hc pins s1 σ H1 vs us Q I1 r1 q1) he hpl
end
end L2
namespace HT
open PySem PyProof.Rows
section
variable{prog:ub}{w:ua}{A:t9}{E:f_ 0}{s:tw}
def cat_tup{vs ws:ue s_}{Q:f_ 0}(ht:IsTup s.heap t vs.toArray)(hb:IsTup s.heap b ws.toArray)(hv:vs≠[])(h1:ws=[]->Q (.ref t) s)(h2:ws≠[]->Q (.ref (e_ s)) {s with heap:=s.heap.push {cls:=.type "tuple",data:=.seq (vs++ws).toArray} })(hsz:vs.length+ws.length<=bp):m_ prog w A (jc .Add (.ref t) (.ref b)) Q E s:=by
 let⟨⟨cls,dd,data,sl⟩,ho,hc,n,hd⟩:=id ht;let⟨⟨cls2,dd2,data2,sl2⟩,ho2,hc2,n2,hd2⟩:=id hb;simp only at hc hd hc2 hd2;subst hc hd hc2 hd2;have e:vs.toArray++ws.toArray=(vs++ws).toArray:=by simp
 by_cases hw:ws=[]
 ·exact concat_meets ⟨_,ho,rfl⟩ ⟨_,ho2,rfl⟩ noFill_tuple_add seq_tuple_add PySem.F.slot_tuple_add PySem.F.entry_tuple_add (PySem.F.args_tuple_add_2 _ _)
   (tuple_addW1 t b vs.toArray ws.toArray n n2 dd dd2 sl sl2 (l_ hv) (by simp[hw])) ⟨ho,ho2,h1 hw⟩
 ·refine concat_meets ⟨_,ho,rfl⟩ ⟨_,ho2,rfl⟩ noFill_tuple_add seq_tuple_add PySem.F.slot_tuple_add PySem.F.entry_tuple_add (PySem.F.args_tuple_add_2 _ _)
   (tuple_addW2 t b vs.toArray ws.toArray n n2 dd dd2 sl sl2 (l_ hv) (l_ hw) (by rw[bh,bh];exact hsz)) ⟨ho,ho2,?_⟩
  rw[e];exact h2 hw
def sIx(n d:Nat):uf Int->Nat
 |none=>d
 |some v=>if v<0 then(v+(n:Int)).toNat else min v.toNat n
def SN(n d:Nat)(hd:d<=n)(o:uf Int):sIx n d o<=n:=by
 cases o with
 |none=>exact hd
 |some v=>
  show(if v<0 then(v+(n:Int)).toNat else min v.toNat n)<=n
  by_cases hv:v<0
  ·rw[if_pos hv];omega
  ·rw[if_neg hv];exact Nat.min_le_right _ _
def HH(v:Int)(n d:Nat):(if v<0 then max (v+(n:Int)) 0 else min v (n:Int))=((sIx n d (a_ v):Nat):Int):=by
 show(if v<0 then max (v+(n:Int)) 0 else min v (n:Int))=(((if v<0 then(v+(n:Int)).toNat else min v.toNat n):Nat):Int)
 by_cases hv:v<0
 ·simp only[if_pos hv];omega
 ·simp only[if_neg hv];omega
def FK(lo hi:uf Int)(n:Nat):qu lo hi 1 (n:Int)=(((sIx n 0 lo:Nat):Int),((sIx n n hi:Nat):Int)):=by
 have h1:¬ ((1:Int)<0):=⋯;unfold qu;simp only[h1,if_false];refine Prod.ext ?_ ?_
 ·cases lo with
  |none=>rfl
  |some v=>exact HH v n 0
 ·cases hi with
  |none=>rfl
  |some v=>exact HH v n n
def FL(i j:Nat):nj (i:Int) (j:Int) 1=j-i:=by
 unfold nj;have h1:(1:Int)>0:=⋯;simp only[h1,if_true,Int.ediv_one];split <;> omega
def xV{Q:uf Int->tw->Prop}(p:IsPart v o)(h:Q o s):m_ prog w A (Builtin.Slice.slicePartIndex v) Q E s:=by
 cases p with
 |none=>exact slicePart_none h
 |int i t=>exact slicePart_int h
def sliceApplied_gen{sl:t7}{vl vu:s_}{lo hi:uf Int}{n:Nat}{Q:Int×Int×Nat->tw->Prop}(hs:s.heap.IsSliceOf sl vl vu .none)(pl:IsPart vl lo)(pu:IsPart vu hi)
  (h:Q (((sIx n 0 lo:Nat):Int),1,sIx n n hi-sIx n 0 lo) s):m_ prog w A (Builtin.Slice.sliceApplied (.ref sl) (pure (n:Int))) Q E s:=by
 let⟨os,hos,hcs,hds⟩:=id hs;unfold Builtin.Slice.sliceApplied Builtin.Slice.sliceFields;refine aa (aa (jf hos hds (x:=vl) rfl (aa (jf hos hds (x:=vu) rfl (aa (jf hos hds (x:=.none) rfl (af ?_)))))));refine aa (slicePart_none ?_)
 show wpAny _ _ (if((1:Int) == 0)=true then _ else _) _ _ s
 rw[if_neg nofun];refine aa (xV pl (aa (xV pu (aa (af ?_)))))
 show wpAny _ _ (match qu lo hi 1 (n:Int) with|(lo,hi)=>pure (lo,(1:Int),nj lo hi 1)) _ _ s
 rw[FK lo hi n]
 show wpAny _ _ (pure (((sIx n 0 lo:Nat):Int),(1:Int),nj ((sIx n 0 lo:Nat):Int) ((sIx n n hi:Nat):Int) 1)) _ _ s
 rw[FL];exact af h
def L8(xs:Array s_)(i k:Nat):((fg k).filterMap λ(m:Nat)=>xs[((i:Int)+(m:Int)*1).toNat]?).toArray=((xs.toList.drop i).take k).toArray:=by
 have e:(λ(m:Nat)=>xs[((i:Int)+(m:Int)*1).toNat]?)=λm=>xs[i+m]?:=by
  funext m;have:((i:Int)+(m:Int)*1).toNat=i+m:=⋯;rw[this]
 rw[e];have:=pick_run xs i k;rw[List.filterMap_map]at this;have e2:((λx=>xs[x]?)∘λx=>i+x)=λm=>xs[i+m]?:=rfl;rw[e2]at this;rw[this]
def getItem_tuple_cut{t sl:t7}{items:Array s_}{vl vu:s_}{lo hi:uf Int}{Q:f_ 0}(ht:IsTup s.heap t items)(hs:s.heap.IsSliceOf sl vl vu .none)(pl:IsPart vl lo)(pu:IsPart vu hi)
  (hw:¬ (sIx items.size 0 lo=0/\sIx items.size items.size hi=items.size))
  (h:Q (.ref (e_ s)) {s with heap:=s.heap.push {cls:=.type "tuple",data:=.seq ((items.toList.drop (sIx items.size 0 lo)).take (sIx items.size items.size hi-sIx items.size 0 lo)).toArray} })
  (hsz:items.size<=bp):m_ prog w A (getItem (.ref t) (.ref sl)) Q E s:=by
 have htake:sizeOk (.seq ((items.toList.drop (sIx items.size 0 lo)).take (sIx items.size items.size hi-sIx items.size 0 lo)).toArray):=by
  show((items.toList.drop (sIx items.size 0 lo)).take (sIx items.size items.size hi-sIx items.size 0 lo)).toArray.size<=bp
  rw[bh,cf,dv,oq];omega
 have hj:sIx items.size items.size hi<=items.size:=SN _ _ (bq _) hi;let⟨os,hos,hcs,hds⟩:=id hs;have hTs:s.TypeIs (.ref sl) "slice" := ⟨os,hos,hcs⟩;unfold getItem
 try with_reducible refine fo ?_
 first|refine aa (af ?_)|skip
 refine aa (wpAny_sequenceKey ht.typeIs nofun ?_);refine aa (ju (name:=gf "__getitem__") ht.typeIs gx
  (ir gx ht.typeIs entry_tuple_getitem ?_ (args_tuple_getitem _ _)))
 show wpAny _ _ (qp (.ref t) >>= _) _ _ s
 refine aa (tupleItemsOf_ ht ?_);refine aa (mz hTs ?_);rw[if_pos nofun];refine aa (sliceApplied_gen hs pl pu ?_);have hno:¬ ((((sIx items.size 0 lo:Nat):Int) == 0&&(1:Int) == 1&&(sIx items.size items.size hi-sIx items.size 0 lo) == items.size)=true):=by intro q;rw[cg,cg]at q;have q1:((sIx items.size 0 lo:Nat):Int)=0:=eq_of_beq q.1.1;have q2:sIx items.size items.size hi-sIx items.size 0 lo=items.size:=eq_of_beq q.2;exact hw ⟨⋯,⋯⟩
 show wpAny _ _ (if(((sIx items.size 0 lo:Nat):Int) == 0&&(1:Int) == 1&&(sIx items.size items.size hi-sIx items.size 0 lo) == items.size)=true then _ else _) _ _ s
 rw[if_neg hno,L8]
 first
  |exact aa (m:=n8 _) (iw (af ⟨_,rfl,af h⟩) htake)
  |exact aa (m:=n8 _) (iw (aa (af (af ⟨_,rfl,af h⟩))) htake)
  |exact aa (aa (m:=n8 _) (iw (af (af ⟨_,rfl,af h⟩)) htake))
  |exact aa (aa (m:=n8 _) (iw (af ⟨_,rfl,af h⟩) htake))
end
end HT
namespace L2
abbrev TO:=St->Hp->(uf Int->Hp->Prop)->Prop
def PO(X:Cx)(e:uf uc)(t:TO):Prop:=
 ∀(pins:g_ 0)(s:tw)(σ:St)(H:Hp)(Q:uf Int->Hp->Prop),Inv X pins σ H s->t σ H Q->
  wpAny (h_ X) X.A (evalPart e X.env) (λu s'=>∃o H',Inv X pins σ H' s'/\IsPart u o/\Q o H') X.xe s
def OQ:TO:=λ_ H Q=>Q b_ H
section
variable{X:Cx}{e:uc}{te:TE}{lo hi:uf uc}{tl th:TO}{pos p2:Pos}
def OR:PO X b_ OQ:=by intro pins s σ H Q I h;rw[evalPart_none];exact af ⟨b_,H,I,.none,h⟩
def SlR(X:Cx)(r:V->uf Int->uf Int->Hp->VK->Prop):Prop:=
 ∀(pins:g_ 0)(s:tw)(σ:St)(H:Hp)(x:V)(v vl vu:s_)(lo hi:uf Int)(sl:t7)(Q:VK),Inv X pins σ H s->RelV x v->s.heap.IsSliceOf sl vl vu .none->IsPart vl lo->IsPart vu hi->r x lo hi H Q->
  ∃T id,typeLookup (.type T) "__getitem__" = pure (a_ (.builtin id))/\s.TypeIs v T/\wpAny (h_ X) X.A (getItem v (.ref sl)) (EP X pins σ Q) X.xe s
theorem SlR.or{r r':V->uf Int->uf Int->Hp->VK->Prop}(h:SlR X r)(h':SlR X r'):SlR X (λx lo hi H Q=>r x lo hi H Q\/r' x lo hi H Q):=by
 intro pins s σ H x v vl vu lo hi sl Q I rx hs pl pu q;rcases q with q|q
 ·exact h pins s σ H x v vl vu lo hi sl Q I rx hs pl pu q
 ·exact h' pins s σ H x v vl vu lo hi sl Q I rx hs pl pu q
def tSl(r:V->uf Int->uf Int->Hp->VK->Prop)(te:TE)(tl th:TO):TE:=λσ H Q=>te σ H λx H1=>tl σ H1 λl H2=>th σ H2 λu H3=>r x l u H3 Q
def L9{r:V->uf Int->uf Int->Hp->VK->Prop}(hr:SlR X r)(he:PE X e te)(hl:PO X lo tl)(hu:PO X hi th):PE X (.Subscript e (.Slice lo hi b_ p2) pos) (tSl r te tl th):=by
 intro pins s σ H Q I h;refine Subscript_ (thn (he pins s σ H _ I h) λv s1 hz=>?_);let⟨x,H1,I1,r1,q1⟩:=hz;refine wpAny_Slice (thn (hl pins s1 σ H1 _ I1 q1) λvl s2 ⟨l,H2,I2,pl,q2⟩=>thn (hu pins s2 σ H2 _ I2 q2) λvu s3 hz=>?_);let⟨u,H3,I3,pu,q3⟩:=hz;rw[evalPart_none];refine af ?_;have I4:Inv X pins σ H3 {s3 with heap:=s3.heap.push {cls:=.type "slice",data:=.fields #[vl,vu,.none]} }:=I3.kept (t':=s3.toks) λb ob q=>ae _ q;let⟨T,id,hT,ht,hg⟩:=hr pins {s3 with heap:=s3.heap.push {cls:=.type "slice",data:=.fields #[vl,vu,.none]} } σ H3 x v vl vu l u (e_ s3) Q I4 r1 (Heap.IsSliceOf.new ..) pl pu q3
 show wpAny (h_ X) X.A (subscriptTail e (.Slice lo hi b_ p2) v (.ref (e_ s3))) (EP X pins σ Q) X.xe {s3 with heap:=s3.heap.push {cls:=.type "slice",data:=.fields #[vl,vu,.none]} }
 exact tail_any (ops:=[.ref (e_ s3),v]) ht hT hg (by with_unfolding_all rfl)
def DD(xs:ue V)(lo hi:uf Int):ue V:=(xs.drop (HT.sIx xs.length 0 lo)).take (HT.sIx xs.length xs.length hi-HT.sIx xs.length 0 lo)
def vL(xs:ue V)(lo hi:uf Int):(DD xs lo hi).length<=xs.length:=by unfold DD;rw[cf,dv];omega
def Va(K:ag):V->uf Int->uf Int->Hp->VK->Prop:=λx lo hi H Q=>∃a xs,x=.ref a/\SqT K H a xs/\
 ¬ (HT.sIx xs.length 0 lo=0/\HT.sIx xs.length xs.length hi=xs.length)/\∀p,H p=b_->Q (.ref p) (upd H p (.tup (DD xs lo hi)))
def SQ:SlR X (Va X.K):=by
 intro pins s σ H x v vl vu lo hi sl Q I rx hs pl pu h;let⟨a,xs,rfl,hx,hw,q⟩:=h;cases rx
 let⟨its,r,ht,hz⟩:=I.tuple hx;have hlen:its.toArray.size=xs.length:=by rw[bh];exact r.length.symm
 refine⟨"tuple",_,gx.lookup,ht.typeIs,?_⟩;refine HT.getItem_tuple_cut ht hs pl pu (by rw[hlen];exact hw) ?_ (by rw[hlen];exact hz);rw[hlen];refine⟨.ref (e_ s),_,I.laid (t':=s.toks) (o:=.tup (DD xs lo hi)) (λb ob q=>ae _ q) (bq _) ?_,rfl,q _ (I.hok.fresh (bq _))⟩;exact⟨fv (vL xs lo hi) hz,_,(r.drop (HT.sIx xs.length 0 lo)).take (HT.sIx xs.length xs.length hi-HT.sIx xs.length 0 lo),tQ.new _ _⟩
def RC(K:ag):R2:=λx y H Q=>∃a b xs ys,x=.ref a/\y=.ref b/\SqT K H a xs/\SqT K H b ys/\xs≠[]/\xs.length+ys.length<=bp/\
 (ys=[]->Q (.ref a) H)/\(ys≠[]->∀p,H p=b_->Q (.ref p) (upd H p (.tup (xs++ys))))
theorem aR.nil_iff(r:aR xs us):us=[]↔xs=[]:=by
 cases r with
 |nil=>simp
 |cons _ _=>simp
def OS:OpR X (jc .Add) (RC X.K):=by
 intro pins s σ H x y v u Q I rx ry h;let⟨a,b,xs,ys,rfl,rfl,ha,hb,hx,hz,q1,q2⟩:=h;cases rx
 cases ry
 let⟨its,r1,p1,_⟩:=I.tuple ha;let⟨its2,r2,p2,_⟩:=I.tuple hb;refine HT.cat_tup p1 p2 (λz=>hx (r1.nil_iff.mp z)) (λz=>⟨.ref a,H,I,rfl,q1 (r2.nil_iff.mp z)⟩) (λz=>?_) (by rw[<-r1.length,<-r2.length];exact hz);refine⟨.ref (e_ s),_,I.laid (t':=s.toks) (o:=.tup (xs++ys)) (λb ob q=>ae _ q) (bq _) ?_,rfl,q2 (λw=>z (r2.nil_iff.mpr w)) _ (I.hok.fresh (bq _))⟩;exact⟨by rw[az];exact hz,_,r1.append r2,tQ.new _ _⟩
end
def ixN(n:Nat)(i:Int):uf Nat:=if 0<=i then(if i<n then a_ i.toNat else b_) else if -(n:Int)<=i then a_ (i+n).toNat else b_
def atI{α:Type}(xs:ue α)(i:Int):uf α:=(ixN xs.length i).bind λj=>xs[j]?
def HI(h:ixN n i=a_ j):seqIndex? i n=a_ j/\j<n/\-(n:Int)<=i/\i<n:=by
 unfold ixN at h;by_cases h0:0<=i
 ·rw[if_pos h0]at h;by_cases h1:i<n
  ·rw[if_pos h1]at h;have e:i.toNat=j:=cy h;exact⟨by rw[seqIndex_of h0 h1,e],⋯,⋯,h1⟩
  ·rw[if_neg h1]at h;cases h
 ·rw[if_neg h0]at h;by_cases h1:-(n:Int)<=i
  ·rw[if_pos h1]at h;have e:(i+n).toNat=j:=cy h;exact⟨by rw[seqIndex_neg ⋯ h1,e],⋯,h1,⋯⟩
  ·rw[if_neg h1]at h;cases h
def BU{α:Type}{xs:ue α}{i:Int}{v:α}(h:atI xs i=a_ v):∃j,seqIndex? i xs.length=a_ j/\xs[j]?=a_ v/\j<xs.length/\-(xs.length:Int)<=i/\i<xs.length:=by
 unfold atI at h;cases e:ixN xs.length i with
 |none=>rw[e]at h;cases h
 |some j=>rw[e]at h;let⟨h1,h2,h3,h4⟩:=HI e;exact⟨j,h1,h,h2,h3,h4⟩
def HJ(b:uc):Prop:=∀o i,subscripted b false o i=operate [o,i] (getItem o i)
def IxR(X:Cx)(r:R2):Prop:=
 ∀(value slice:uc)(pins:g_ 0)(s:tw)(σ:St)(H:Hp)(x y:V)(v u:s_)(Q:VK),Inv X pins σ H s->RelV x v->RelV y u->r x y H Q->
  subscripted slice false v u=operate [v,u] (getItem v u)->wpAny (h_ X) X.A (subscriptTail value slice v u) (EP X pins σ Q) X.xe s
def MtR(X:Cx)(id:String)(r:V->ue V->Hp->VK->Prop):Prop:=
 ∀(pins:g_ 0)(s:tw)(σ:St)(H:Hp)(x:V)(xs:ue V)(v:s_)(us:ue s_)(Q:VK),Inv X pins σ H s->RelV x v->aR xs us->r x xs H Q->
  wpAny (h_ X) X.A (call (.builtin id) (v::us)) (EP X pins σ Q) X.xe s
section
variable{X:Cx}{a b:uc}{ta tb:TE}{pos:Pos}
theorem IxR.or(h:IxR X r)(h':IxR X r'):IxR X (λx y H Q=>r x y H Q\/r' x y H Q):=by
 intro value slice pins s σ H x y v u Q I rx ry q hs;rcases q with q|q
 ·exact h value slice pins s σ H x y v u Q I rx ry q hs
 ·exact h' value slice pins s σ H x y v u Q I rx ry q hs
def Vb(hr:IxR X r)(ha:PE X a ta)(hb:PE X b tb)(hs:HJ b):PE X (.Subscript a b pos) (tOp r ta tb):=by intro pins s σ H Q I h;exact Subscript_ (Sw ha hb I h λv u s2 x y H2 I2 rx ry q=>hr a b pins s2 σ H2 x y v u Q I2 rx ry q (hs _ _))
def Xl(K:ag):R2:=λx y H Q=>∃p xs i v,x=.ref p/\y=.int i/\SqL K H p xs/\atI xs i=a_ v/\Q v H
def Xm(K:ag):R2:=λx y H Q=>∃p xs i v,x=.ref p/\y=.int i/\SqT K H p xs/\atI xs i=a_ v/\Q v H
def Xn:R2:=λx y H Q=>∃z i c,x=.str z/\y=.int i/\z.length<=bp/\atI z.cps.toList i=a_ c/\Q (.str ⟨#[c]⟩) H
def OT:IxR X (Xl X.K):=by
 intro value slice pins s σ H x y v u Q I rx ry h hs;let⟨p,xs,i,z,rfl,rfl,hq,he,q⟩:=h;cases rx
 let⟨t,rfl⟩:=ry;let⟨its,r,pl,hz⟩:=I.list hq;let⟨j,h1,h2,h3,h4,h5⟩:=BU he;let⟨w,ew,rw'⟩:=r.get h2;have hl:=r.length;have hn:=qD;have fin:EP X pins σ Q w s:=⟨z,H,I,rw',q⟩;by_cases h0:0<=i
 ·have hj:i.toNat=j:=by rw[seqIndex_of h0 h5]at h1;exact cy h1
  exact item_listR pl.isList h0 ⋯ (by rw[hj];simpa using ew) fin hs
 ·have hj:(i+(its.toArray.size:Int)).toNat=j:=by rw[seqIndex_neg ⋯ h4]at h1;rw[bh,<-hl];exact cy h1
  exact subscriptTail_builtinR (x:=w) pl.isList.typeIs slot_list_getitem.lookup
   (wpAny_getItem_list_neg (Q:=λr s'=>r=w/\EP X pins σ Q r s') pl.isList ⋯ (by rw[bh] <;> omega) ⋯ (by rw[hj];simpa using ew) ⟨rfl,fin⟩) hs
def SR:IxR X (Xm X.K):=by
 intro value slice pins s σ H x y v u Q I rx ry h hs;let⟨p,xs,i,z,rfl,rfl,hq,he,q⟩:=h;cases rx
 let⟨t,rfl⟩:=ry;let⟨its,r,pl,hz⟩:=I.tuple hq;let⟨j,h1,h2,h3,h4,h5⟩:=BU he;let⟨w,ew,rw'⟩:=r.get h2;have hl:=r.length;have hn:=qD;have fin:EP X pins σ Q w s:=⟨z,H,I,rw',q⟩;exact subscriptTail_builtinR (x:=w) pl.typeIs slot_tuple_getitem.lookup
  (getItem_tuple (j:=j) (Q:=λr s'=>r=w/\EP X pins σ Q r s') pl ⋯ ⋯ (by rw[bh,<-hl];exact h1) (l_ ew) ⟨rfl,fin⟩) hs
def SS:IxR X Xn:=by
 intro value slice pins s σ H x y v u Q I rx ry h hs;let⟨z,i,c,rfl,rfl,hz,he,q⟩:=h;let⟨t,rfl⟩:=rx;let⟨t',rfl⟩:=ry;let⟨j,h1,h2,h3,h4,h5⟩:=BU he;have hl:z.cps.toList.length=z.length:=by simp[Str.length]
 rw[hl]at h1 h4 h5;have hn:=qD;exact tail_any (typeIs_str s z t) slot_str_getitem.lookup (getItem_str (c:=c) (by have e1:decide (i < -(2 ^ 63:Int))=false:=decide_eq_false ⋯;have e2:decide (i >= 2 ^ 63)=false:=decide_eq_false ⋯;rw[e1,e2,Bool.or_false]) (by rw[h1];simpa using h2) ⟨.str ⟨#[c]⟩,H,I.tok _,⟨_,rfl⟩,q⟩) hs
def FM(its:ue s_)(n j:Nat)(u:s_):fc (·.setIfInBounds j u) {cls:=.type "list",data:=.seq its.toArray n}={cls:=.type "list",data:=.seq (its.set j u).toArray n}:=by simp[fc]
theorem Inv.lst{pins:g_ 0}{σ:St}{H:Hp}{s:tw}{p:t7}{xs:ue V}(I:Inv X pins σ H s)(h:H p=a_ (.lst xs)):
  ∃(its:ue s_)(n:Nat),aR xs its/\s.heap.get? p=a_ {cls:=.type "list",data:=.seq its.toArray n}/\xs.length<=bp:=by
 let⟨z,its,n,r,e⟩:=I.hok p _ h;exact⟨its,n,r,e,z⟩
theorem Inv.lstUpd{pins:g_ 0}{σ:St}{H:Hp}{s:tw}{p:t7}{xs ys:ue V}{its its':ue s_}{n n':Nat}{f:Obj->Obj}(I:Inv X pins σ H s)(h:H p=a_ (.lst xs))
  (ho:s.heap.get? p=a_ {cls:=.type "list",data:=.seq its.toArray n}) (hf:f {cls:=.type "list",data:=.seq its.toArray n}={cls:=.type "list",data:=.seq its'.toArray n'}) (r:aR ys its') (hz:ys.length<=bp) (t:Nat):
  Inv X pins σ (upd H p (.lst ys)) {s with heap:=s.heap.update p f,toks:=t}:=by
 have e:(s.heap.update p f).get? p=a_ {cls:=.type "list",data:=.seq its'.toArray n'}:=by rw[jk f ho (by rw[hf] <;> rfl),hf]
 refine I.write (x:=p) (e:=p) (by rw[h];trivial) (.inl rfl) (λb u hb q=>(j5 _ _ (iz hb)).trans q) ⟨_,e⟩ ?_;exact⟨hz,its',n',r,e⟩
def Vc:V->V->V->Hp->(Hp->Prop)->Prop:=λo i v H Q=>∃p xs k j,o=.ref p/\i=.int k/\H p=a_ (.lst xs)/\ixN xs.length k=a_ j/\Q (upd H p (.lst (xs.set j v)))
def set_list:Xb X Vc:=by
 intro pins s σ H o i v ov iv u Q I ro ri rv h;let⟨p,xs,k,j,rfl,rfl,hp,hj,q⟩:=h;cases ro
 let⟨t,rfl⟩:=ri;let⟨its,n,r,ho,hz⟩:=I.lst hp;let⟨h1,h2,h3,h4⟩:=HI hj;have hl:=r.length;have hn:=qD;have I':Inv X pins σ (upd H p (.lst (xs.set j v))) {s with heap:=s.heap.update p (fc (·.setIfInBounds j u))}:=I.lstUpd hp ho (FM its n j u) (r.set rv j) (by rw[qd];exact hz) s.toks;by_cases h0:0<=k
 ·have hk:k.toNat=j:=by rw[seqIndex_of h0 h4]at h1;exact cy h1
  exact PySem.W.ki_setAt ho h0 ⋯ (by rw[bh,<-hl];exact h4) (by rw[hk];exact⟨_,I',q⟩)
 ·have hk:(k+(its.toArray.size:Int)).toNat=j:=by rw[seqIndex_neg ⋯ h3]at h1;rw[bh,<-hl];exact cy h1
  exact PySem.W.ki_setBack ho ⋯ (by rw[bh,<-hl];exact h3) ⋯ (by rw[hk];exact⟨_,I',q⟩)
def BV(lo hi:uf Int)(n:Nat):(sliceBounds lo hi b_ n).1=((HT.sIx n 0 lo:Nat):Int)/\(sliceBounds lo hi b_ n).2.1=((HT.sIx n n hi:Nat):Int)/\(sliceBounds lo hi b_ n).2.2=1:=by
 refine⟨?_,?_,rfl⟩
 ·cases lo with
  |none=>simp[sliceBounds,HT.sIx]
  |some i=>
   simp only[sliceBounds,HT.sIx,Option.getD_none,show(1:Int)>0 by decide,if_true]
   by_cases h:i<0
   ·simp only[h,if_true] <;> omega
   ·simp only[h,if_false] <;> omega
 ·cases hi with
  |none=>simp[sliceBounds,HT.sIx]
  |some i=>
   simp only[sliceBounds,HT.sIx,Option.getD_none,show(1:Int)>0 by decide,if_true]
   by_cases h:i<0
   ·simp only[h,if_true] <;> omega
   ·simp only[h,if_false] <;> omega
def A8(its:ue s_)(lo hi:uf Int):slicePick its.toArray lo hi b_=((its.drop (HT.sIx its.length 0 lo)).take (HT.sIx its.length its.length hi-HT.sIx its.length 0 lo)).toArray:=by let⟨h1,h2,h3⟩:=BV lo hi its.toArray.size;unfold slicePick;rw[h1,h2,h3];simp only[sliceRange_one,pick_run,bh] <;> rfl
def Vd(K:ag):V->uf Int->uf Int->Hp->VK->Prop:=λx lo hi H Q=>∃a xs,x=.ref a/\SqL K H a xs/\∀p,H p=b_->Q (.ref p) (upd H p (.lst (DD xs lo hi)))
def OU:SlR X (Vd X.K):=by
 intro pins s σ H x v vl vu lo hi sl Q I rx hs pl pu h;let⟨a,xs,rfl,hx,q⟩:=h;cases rx
 let⟨its,r,ht,hz⟩:=I.list hx;have hlen:=r.length;refine⟨"list",_,slot_list_getitem.lookup,ht.isList.typeIs,?_⟩;refine wpAny_getItem_list_slice ht.isList hs pl pu .none (by simp) ?_ (by rw[bh] <;> omega);rw[A8,<-hlen];refine⟨.ref (e_ s),_,I.laid (t':=s.toks) (o:=.lst (DD xs lo hi)) (λb ob q=>ae _ q) (bq _) ?_,rfl,q _ (I.hok.fresh (bq _))⟩;exact⟨fv (vL xs lo hi) hz,_,0,(r.drop (HT.sIx xs.length 0 lo)).take (HT.sIx xs.length xs.length hi-HT.sIx xs.length 0 lo),bo _ rfl⟩
def vM:V->Bool
 |.non=>true
 |.bl _=>true
 |.int _=>true
 |.str _=>true
 |_=>false
def eqV:V->V->Bool
 |.non,.non=>true
 |.bl a,.bl b=>a == b
 |.bl a,.int b=>(if a then 1 else 0) == b
 |.int a,.bl b=>a == (if b then 1 else 0)
 |.int a,.int b=>a == b
 |.str a,.str b=>a == b
 |_,_=>false
def SU(ry:RelV y u)(rx:RelV x v)(fy:vM y=true)(fx:vM x=true):SeqAt.EqAt A s u v (eqV y x):=by
 cases y with
 |non=>
  cases ry
  cases x with
  |non=>cases rx;exact SeqAt.EqAt.same _
  |bl b=>cases rx;exact SeqAt.EqAt.none_bool b
  |int b=>let⟨t,rfl⟩:=rx;exact SeqAt.EqAt.none_int b t
  |str b=>let⟨t,rfl⟩:=rx;exact SeqAt.EqAt.none_str b t
  |_=>exact absurd (show false=true from fx) cu
 |bl a=>
  cases ry
  cases x with
  |non=>cases rx;exact SeqAt.EqAt.bool_none a
  |bl b=>cases rx;exact SeqAt.EqAt.bool_bool a b
  |int b=>let⟨t,rfl⟩:=rx;exact SeqAt.EqAt.bool_int a b t
  |str b=>let⟨t,rfl⟩:=rx;exact SeqAt.EqAt.bool_str a b t
  |_=>exact absurd (show false=true from fx) cu
 |int a=>
  let⟨t',rfl⟩:=ry;cases x with
  |non=>cases rx;exact SeqAt.EqAt.int_none a t'
  |bl b=>cases rx;exact SeqAt.EqAt.int_bool a t' b
  |int b=>let⟨t,rfl⟩:=rx;exact SeqAt.EqAt.int_int a t' b t
  |str b=>let⟨t,rfl⟩:=rx;exact SeqAt.EqAt.int_str a t' b t
  |_=>exact absurd (show false=true from fx) cu
 |str a=>
  let⟨t',rfl⟩:=ry;cases x with
  |non=>cases rx;exact SeqAt.EqAt.str_none a t'
  |bl b=>cases rx;exact SeqAt.EqAt.str_bool a t' b
  |int b=>let⟨t,rfl⟩:=rx;exact SeqAt.EqAt.str_int a t' b t
  |str b=>let⟨t,rfl⟩:=rx;exact SeqAt.EqAt.str_str a t' b t
  |_=>exact absurd (show false=true from fx) cu
 |_=>exact absurd (show false=true from fy) cu
def eqU(x:V)(u:s_):Bool:=match u with
 |.none=>eqV .non x
 |.bool b=>eqV (.bl b) x
 |.int i _=>eqV (.int i) x
 |.str z _=>eqV (.str z) x
 |_=>false
def L'(r:RelV y u)(f:vM y=true):eqU x u=eqV y x:=by
 cases y with
 |non=>cases r;rfl
 |bl b=>cases r;rfl
 |int i=>let⟨t,rfl⟩:=r;rfl
 |str z=>let⟨t,rfl⟩:=r;rfl
 |_=>exact absurd (show false=true from f) cu
theorem rA:∀{xs:ue V}{us:ue s_},aR xs us->xs.all vM=true->us.any (eqU x)=xs.any λy=>eqV y x
 |_,_,.nil,_=>rfl
 |y::xs,u::us,.cons r t,f=>by rw[ie,cg]at f;rw[ou,ou,L' r f.1,rA t f.2]
theorem nN(rx:RelV x v)(fx:vM x=true):∀{xs:ue V}{us:ue s_},aR xs us->xs.all vM=true->∀u∈us,SeqAt.EqAt A s u v (eqU x u)
 |_,_,.nil,_=>λu hu=>by cases hu
 |y::xs,u::us,.cons r t,f=>λu' hu=>by
  rw[ie,cg]at f;rcases bx.mp hu with rfl|hu
  ·rw[L' r f.1];exact SU r rx f.1 fx
  ·exact nN rx fx t f.2 u' hu
def inV(x:V)(xs:ue V):Bool:=xs.any λy=>eqV y x
def rIn(K:ag)(neg:Bool):R2:=λx y H Q=>∃p xs,y=.ref p/\(SqL K H p xs\/SqT K H p xs)/\vM x=true/\xs.all vM=true/\Q (.bl (if neg then !inV x xs else inV x xs)) H
def Jh:OpR X (d6 .In) (rIn X.K false):=by
 intro pins s σ H x y v u Q I rx ry h;let⟨p,xs,rfl,hq,fx,fs,q⟩:=h;cases ry
 rcases hq with hq|hq
 ·let⟨its,r,pl,hz⟩:=I.list hq;refine SeqAt.in_listAt (eqU x) pl.isList (λw hw=>nN rx fx r fs w (l_ hw)) ⟨.bl _,H,I,rfl,?_⟩;rw[show its.toArray.any (eqU x)=its.any (eqU x) by simp,rA r fs];exact q
 ·let⟨its,r,pl,hz⟩:=I.tuple hq;refine SeqAt.in_tupleAt (eqU x) pl (λw hw=>nN rx fx r fs w (l_ hw)) ⟨.bl _,H,I,rfl,?_⟩;rw[show its.toArray.any (eqU x)=its.any (eqU x) by simp,rA r fs];exact q
def BW:OpR X (d6 .NotIn) (rIn X.K true):=by
 intro pins s σ H x y v u Q I rx ry h;let⟨p,xs,rfl,hq,fx,fs,q⟩:=h;cases ry
 rcases hq with hq|hq
 ·let⟨its,r,pl,hz⟩:=I.list hq;refine SeqAt.notIn_listAt (eqU x) pl.isList (λw hw=>nN rx fx r fs w (l_ hw)) ⟨.bl _,H,I,rfl,?_⟩;rw[show its.toArray.any (eqU x)=its.any (eqU x) by simp,rA r fs];exact q
 ·let⟨its,r,pl,hz⟩:=I.tuple hq;refine SeqAt.notIn_tupleAt (eqU x) pl (λw hw=>nN rx fx r fs w (l_ hw)) ⟨.bl _,H,I,rfl,?_⟩;rw[show its.toArray.any (eqU x)=its.any (eqU x) by simp,rA r fs];exact q
def BX:iH X (.builtin "len") (λxs H Q=>∃p ys,xs=[.ref p]/\(SqL X.K H p ys\/SqT X.K H p ys)/\Q (.int ys.length) H):=by
 intro pins s σ H xs us Q I r h;let⟨p,ys,rfl,hq,q⟩:=h;let⟨u,rfl,rx⟩:=vals1 r;cases rx
 have hn:=qD;rcases hq with hq|hq
 ·let⟨its,r',pl,hz⟩:=I.list hq;have hlen:=r'.length;exact Calls.call_len_list pl.isList (by simp only[bh] <;> omega) ⟨.int ys.length,H,I.tok _,⟨s.toks+1,by rw[bh,hlen]⟩,q⟩
 ·let⟨its,r',pl,hz⟩:=I.tuple hq;have hlen:=r'.length;exact len_tuple pl (by simp only[bh] <;> omega) ⟨.int ys.length,H,I.tok _,⟨s.toks+1,by rw[bh,hlen]⟩,q⟩
def A9:iH X (.type "tuple") (λxs H Q=>∃p ys,xs=[.ref p]/\((SqL X.K H p ys/\∀l,H l=b_->Q (.ref l) (upd H l (.tup ys)))\/(SqT X.K H p ys/\Q (.ref p) H))):=by
 intro pins s σ H xs us Q I r h;let⟨p,ys,rfl,h⟩:=h;let⟨u,rfl,rx⟩:=vals1 r;cases rx
 rcases h with⟨hq,q⟩|⟨hq,q⟩
 ·let⟨its,r',pl,hz⟩:=I.list hq;have hlen:=r'.length;refine call_tuple_list pl.isList (λh' kp=>?_) (by simp only[bh] <;> omega);have I1:Inv X pins σ H {s with heap:=h'}:=I.kept (t':=s.toks) kp;have I2:Inv X pins σ (upd H h'.objs.size (.tup ys)) {s with heap:=h'.push {cls:=.type "tuple",data:=.seq its.toArray} }:=I1.laid (t':=s.toks) (λb o e=>ae _ e) (bq _) (show dS X.prog X.w _ _ _ (.tup ys) from⟨hz,its,r',tQ.new _ _⟩)
  exact⟨.ref h'.objs.size,_,I2,rfl,q _ (I1.hok.fresh (bq _))⟩
 ·let⟨its,r',pl,hz⟩:=I.tuple hq;exact call_tuple_same pl ⟨.ref p,H,I,rfl,q⟩
def tyV(K:ag)(T:String)(x:V)(H:Hp):Prop:=match x with
 |.str _=>T="str"
 |.int _=>T="int"
 | .ref p=>(T="list" /\ ∃ xs,SqL K H p xs)\/(T="tuple" /\ ∃ o,K.lookup p=a_ o/\o.cls=.type "tuple" /\ o.dict=b_)\/
   (T="dict" /\ ((∃kvs,H p=a_ (.dK kvs))\/∃kvs,H p=a_ (.dT kvs)))\/(T="set" /\ ∃S n,H p=a_ (.set S n))
 |_=>False
def SV{pins:g_ 0}{σ:St}{H:Hp}{s:tw}{T:String}{x:V}{v:s_}(I:Inv X pins σ H s)(r:RelV x v)(ty:tyV X.K T x H):
  s.TypeIs v T/\∀a,v=.ref a->∃ob,s.heap.get? a=a_ ob/\ob.dict=b_:=by
 cases x with
 |str z=>
  let⟨t,rfl⟩:=r;cases(show T="str" from ty)
  exact⟨typeIs_str s z t,λ_ e=>nomatch e⟩
 |int i=>
  let⟨t,rfl⟩:=r;cases(show T="int" from ty)
  exact⟨typeIs_int s i t,λ_ e=>nomatch e⟩
 |ref p=>
  cases r
  rcases ty with⟨rfl,xs,hq⟩|⟨rfl,o,hk,hc,hd⟩|⟨rfl,hk⟩|⟨rfl,S,n,hk⟩
  ·let⟨its,_,pl,_⟩:=I.list hq;refine⟨pl.isList.typeIs,λa e=>?_⟩;cases e
   let⟨o,n,e,c,hd,_⟩:=pl;exact⟨o,e,hd⟩
  ·refine⟨⟨o,I.kIn p o hk,hc⟩,λa e=>?_⟩;cases e
   exact⟨o,I.kIn _ o hk,hd⟩
  ·have z:∃o,s.heap.get? p=a_ o/\o.ExactDict:=by
    rcases hk with⟨kvs,hk⟩|⟨kvs,hk⟩
    ·let⟨_,_,_,_,o,_,_,e,ex,_⟩:=I.hok p _ hk;exact⟨o,e,ex⟩
    ·let⟨_,_,_,_,o,_,_,e,ex,_⟩:=I.hok p _ hk;exact⟨o,e,ex⟩
   let⟨o,e,ex⟩:=z;refine⟨⟨o,e,ex.1⟩,λa e2=>?_⟩;cases e2
   exact⟨o,e,ex.2.1⟩
  ·let⟨o,_,_,_,e,ex,_⟩:=I.hok p _ hk;refine⟨⟨o,e,ex.1⟩,λa e2=>?_⟩;cases e2
   exact⟨o,e,ex.2.1⟩
 |_=>exact j8 ty
def tBM(K:ag)(T:String)(r:V->ue V->Hp->VK->Prop)(to:TE)(t:TA):TE:=λσ H Q=>to σ H λx H1=>tyV K T x H1/\t σ H1 λxs H2=>r x xs H2 Q
variable{o e:uc}{es:ue uc}{to:TE}{t:TA}{name:Str}{apos cpos:Pos}{T id:String}{r:V->ue V->Hp->VK->Prop}
def Ve(pa:PlainAttrs T)(slot:Slot T name id)(hty:typeOf (.builtin id)=pure (.type "method_descriptor"))(hm:MtR X id r)(ho:PE X o to)(ha:PA X (e::es) t)
  (hbase:my o name X.env (eval o X.env)=eval o X.env:=by rfl)
  (hfew:((backTo cpos (da (e::es) X.env)).all (λx=>!x.1)&&(backToKw cpos (keywordEach [] X.env)).all (λx=>x.1.isSome)
   && decide ((e::es).length+([]:ue Keyword).length+(if([]:ue Keyword).isEmpty then 0 else 1)<30))=true:=by rfl)
  (hline:(apos.endLine == cpos.line)=true:=by rfl) (hs:da (e::es) X.env=(false,eval e X.env)::da es X.env:=by rfl) (hplain:(backTo cpos (da es X.env)).any (·.1)=false:=by rfl):
  PE X (.Call (.Attribute o name apos) (e::es) [] cpos) (tBM X.K T r to t):=by
 intro pins s σ H Q I h;refine wpAny_Call_method_late hbase hfew hline rfl (thn (ho pins s σ H _ I h) λv s1 hz=>?_);let⟨x,H1,I1,r1,ty,q1⟩:=hz;let⟨h1,h2⟩:=SV I1 r1 ty;refine⟨T,id,pa,slot,hty,h1,h2,?_⟩;have hA:=ha cpos pins s1 σ H1 _ I1 q1;rw[hs]at hA⊢;refine Calls.callWith_builtin (by show(false || (backTo cpos (da es X.env)).any (·.1))=false;rw[hplain] <;> rfl) (Calls.evalArgs_plain ?_);exact thn hA λus s2 ⟨vs,H2,I2,r2,q2⟩=>hm pins s2 σ H2 x vs v us Q I2 r1 r2 q2
end
def MtM(X:Cx)(id:String)(r:V->ue V->Hp->VK->Prop):Prop:=
 ∀(pins:g_ 0)(s:tw)(σ:St)(H:Hp)(x:V)(xs:ue V)(v:s_)(us:ue s_)(Q:VK),Inv X pins σ H s->RelV x v->aR xs us->r x xs H Q->
  wpAny (h_ X) X.A (call (.builtin id) (v::us)) (EP X pins σ Q) X.xe s
theorem aR.one:∀{x:V}{us:ue s_},aR [x] us->∃u,us=[u]/\RelV x u
 |_,_,.cons r .nil=>⟨_,rfl,r⟩
section
variable{X:Cx}{pins:g_ 0}{σ:St}{H:Hp}{s:tw}{l b:t7}{xs ys zs:ue V}
theorem Inv.lset{its its':ue s_}{f:Array s_->Array s_}(I:Inv X pins σ H s)(hH:H l=a_ (.lst xs))(e:s.heap.get? l=a_ {cls:=.type "list",data:=.seq its.toArray n})(hf:f its.toArray=its'.toArray)(hv:aR ys its')(hz:ys.length<=bp):
  Inv X pins σ (upd H l (.lst ys)) {s with heap:=s.heap.update l (fc f),toks:=t'}:=by
 have q:=PySem.IsL.update e f;rw[hf]at q;refine I.write (x:=l) (e:=l) (by rw[hH];exact trivial) (.inl rfl) (λb' u hb hu=>(j5 s.heap (fc f) (iz hb)).trans hu) ⟨_,q⟩ ?_;exact⟨hz,its',_,hv,q⟩
theorem Inv.lnew{its:ue s_}(I:Inv X pins σ H s)(hv:aR ys its)(hz:ys.length<=bp):
  Inv X pins σ (upd H (e_ s) (.lst ys)) {s with heap:=s.heap.push {cls:=.type "list",data:=.seq its.toArray},toks:=t'}:=
 I.laid (λ_ _ q=>ae _ q) (bq _) ⟨hz,its,0,hv,bo _ rfl⟩
theorem Inv.fresh(I:Inv X pins σ H s):H (e_ s)=b_:=I.hok.fresh (bq _)
theorem Inv.lstM(I:Inv X pins σ H s)(hH:H l=a_ (.lst xs)):xs.length<=bp/\∃(its:ue s_)(n:Nat),aR xs its/\xs.length=its.length/\s.heap.get? l=a_ {cls:=.type "list",data:=.seq its.toArray n}:=by let⟨z,its,n,r,e⟩:=I.hok l _ hH;exact⟨z,its,n,r,r.length,e⟩
end
section
variable{X:Cx}
def HK:V->ue V->Hp->VK->Prop:=λx vs H Q=>∃l xs y,x=.ref l/\vs=[y]/\H l=a_ (.lst xs)/\xs.length<bp/\Q .non (upd H l (.lst (xs++[y])))
def AR:MtM X "list.append" HK:=by
 intro pins s σ H x vs v us Q I rx rv h;let⟨l,xs,y,rfl,rfl,hH,hz,q⟩:=h;cases rx
 let⟨u,rfl,ru⟩:=rv.one;let⟨z,its,n,r,hl,e⟩:=I.lstM hH;refine call_meets F.slot_list_append ⟨_,e,rfl⟩ F.entry_list_append (F.args_list_append_2 _ _) (PySem.list_append l its.toArray n u (by rw[bh];omega)) ⟨e,?_⟩;refine⟨.non,_,I.lset (its':=its++[u]) hH e (by simp) (r.append (.cons ru .nil)) ?_,rfl,q⟩;rw[az,List.length_singleton];omega
def Vf:R2:=λx y H Q=>∃l b xs zs,x=.ref l/\y=.ref b/\H l=a_ (.lst xs)/\H b=a_ (.lst zs)/\xs.length+zs.length<=bp/\∀p,H p=b_->Q (.ref p) (upd H p (.lst (xs++zs)))
def SX:OpR X (jc .Add) Vf:=by
 intro pins s σ H x y v u Q I rx ry h;let⟨l,b,xs,zs,rfl,rfl,hH,hB,hz,q⟩:=h;cases rx
 cases ry
 let⟨z,its,n,r,hl,e⟩:=I.lstM hH;let⟨z2,its2,n2,r2,hl2,e2⟩:=I.lstM hB;refine PySem.P.add_list e e2 ?_ (by rw[bh,bh];omega);have ea:its.toArray++its2.toArray=(its++its2).toArray:=by simp
 rw[ea];exact⟨.ref _,_,I.lnew (t':=s.toks) (r.append r2) (by rw[az];omega),rfl,q _ I.fresh⟩
end
end L2
namespace Att
open PySem PySem.W PySem.Calls PyProof.Rows
def wN:∀(ns:ue Int)(vs:ue s_),WellAll P h vs (ns.map WData.int)->IntsAre vs ns:=by
 intro ns
 induction ns with
 |nil=>
  intro vs w;rw[List.map_nil]at w;cases w
  exact .nil
 |cons n ns ih=>
  intro vs w;rw[dn]at w;cases w with
  |cons a b=>
   cases a
   exact .cons _ _ (ih _ b)
def Ji{l:OpenLaw}(hn:l.most=a_ n){h:t_}(hpre:l.row.toRowW.claim.pre args=true)(hwl:WellAll P h vals args):
  ∃a vs ns,vals=[dh a]/\args=[WData.list (ns.map WData.int)]/\h.get? a=a_ {cls:=.type "list",data:=.seq vs.toArray}/\IntsAre vs ns/\ns.length<=n:=by
 have hsh:WShape.hasAll [] args [.list .int]=true:=(pre_splitW hpre).1;have hc:l.pre.holds [] { args:=args}=true:=(pre_splitW hpre).2;let⟨d,r,rfl,h1,h2⟩:=hasAllW_cons hsh;obtain rfl:=hasAllW_nil h2;let⟨xs,rfl,h3⟩:=hasW_list h1;let⟨ns,rfl⟩:=items_int h3;have hlen:ns.length<=n:=by
  unfold OpenLaw.pre at hc;have h4:(WTm.not (.lt (.lit (.int (n:Int))) (.len (.arg 0)))).holds [] { args:=[.list (ns.map .int)]}=true:=by have h4:=(holds_andW hc).1;rw[hn]at h4;exact h4
  have h5:=condW_of h4 (w_not (w_lt w_lit (w_len_list (w_arg rfl))));rw[aq]at h5;refine Nat.le_of_not_lt λq=>?_;have q':(n:Int)<((ns.length:Nat):Int):=⋯
  first
   |(rw[decide_eq_true q']at h5;exact absurd h5 nofun)
   |(simp at h5;omega)
 cases hwl with
 |cons w1 w2=>
  cases w2
  cases w1 with
  |list ho hall=>exact⟨_,_,ns,rfl,rfl,ho,wN ns _ hall,hlen⟩
def Jj(l:OpenLaw)(args:ue WData):l.row.toRowW.claim.post args (.bool true) args=true:=
 postW_of (r:=l.row.toRowW) (X:=(true == true))
  (show WShape.has [] (.bool true) .bool=true by first|rfl|decide|simp[WShape.has,WShape.arms,WShape.armsAll])
  (show(WTm.eq .res (.lit (.bool true))).value [] { args:=args,res:=a_ (.bool true),after:=args}=a_ (.bool (true == true)) from w_eq_bool (w_res rfl) w_lit) rfl
def attach_call{l:OpenLaw}{XP:(o_ 0)->t_->Prop}{YP:ua->t_->Prop}{d:DefRec}(hn:l.most=a_ n)(hdf:d.params.defaults=[])(call:∀(w:ua)(s₀ s₁:tw)(mg mb:o_ 0)(fa:t7)(o:Obj)(pm cd doc:s_)(a:t7)(vs:ue s_)(ns:ue Int),
   Ground q loose [] XP w s₀ mg mb s₁.heap->YP w s₁.heap->
   s₁.heap.get? fa=a_ o->o.data=.func (docDef d.name d.params d.body d.scope pm cd doc)->s₁.heap.CodeRec cd d.name->mg d.name=c_ fa->
   s₁.heap.get? a=a_ {cls:=.type "list",data:=.seq vs.toArray}->IntsAre vs ns->ns.length<=n->s₁.gens=#[]->
   codeAny (model l.prog w) callerA (.call (.ref fa) ⟨[.ref a],[]⟩) (λr s'=>r=.ok (.ret (.bool true))/\OldK s₁.heap s'.heap/\s'.os=s₁.os/\AllBare s'.gens) s₁):
  WalkO q loose XP YP l.row.toRowW d [] (λf vs=>PySem.call f vs):=by
 intro w s₀ s₁ mg mb G Y fa o pm cd doc dV kV ho hd hcd hD hmg hg args vals as hpre hlay hrd hwl hlo;obtain rfl:dV=.none:=Dflts.none hD hdf;obtain rfl:kV=.none:=Dflts.noKw hD;let⟨a,vs,ns,rfl,rfl,hobj,hints,hlen⟩:=Ji hn hpre hwl;refine enter_call (codeAny_mono (call w s₀ s₁ mg mb fa o pm cd doc a vs ns G Y ho (fd_plain hd) hcd hmg hobj hints hlen hg) λr s' hq=>?_);let⟨rfl,h2,h3,h4⟩:=hq;exact⟨.inl ⟨.bool true,.bool true,[],rfl,λ_=>rfl,.bool true,Jj l _,λ_=>⟨j9,λ_ hm=>(nomatch hm)⟩⟩,h2,h3,h4⟩
end Att
namespace L2
theorem AS:∀{vs:ue s_}{ns:ue Int},IntsAre vs ns->aR (ns.map V.int) vs
 |_,_,.nil=>.nil
 |_,_,.cons n t h=>.cons ⟨t,rfl⟩ (AS h)
def La(H:Hp):Prop:=∀b,H b=b_\/∃o xs,H b=a_ (.frz o (.lst xs))
def Lb{K:ag}{mg mb:o_ 0}{s₁:tw}{vs:ue s_}{ns:ue Int}(KX:K.In s₁.heap)(hns:s₁.heap.Ns fb mg)(hb:s₁.heap.Ns builtinsNs mb)(hbb:∀x:Str,x≠"__name__" -> mb x=qc x)(hlim:s₁.heap.NoLimit)(hg:s₁.gens=#[])(ha:s₁.heap.get? a=a_ {cls:=.type "list",data:=.seq vs.toArray})(hi:IntsAre vs ns)(hl:ns.length<=bp)(hr:gG k callerA)(F:∀base:t_,K.In base->base.Ns fb mg->bA P w K mg base CX k fa fd [x] sp)(hbind:∀(s:tw)(u:s_),BindsTo s fd ⟨[u],[]⟩ [(x,u)])(hsp:∀H:Hp,La H->SqL K H a (ns.map V.int)->sp [.ref a] H (λv _=>v=.bl true) λ_ _ _=>False)(hCX:∀H e s',CX [] H s₁ (λ_ _ _=>False) e s'->False):
  codeAny (model P w) callerA (.call (.ref fa) ⟨[.ref a],[]⟩) (λr s'=>r=.ok (.ret (.bool true))/\OldK s₁.heap s'.heap/\s'.os=s₁.os/\AllBare s'.gens) s₁:=by
 have rv:=AS hi;have lenV:=hi.length
 -- from an abstract heap in which nothing but the script may be tracked
 have core:∀H:Hp,La H->SqL K H a (ns.map V.int)->HOk P w H s₁.heap->(∀b,H b≠b_->b=a)->(H a≠b_->K.lookup a=b_)->
   codeAny (model P w) callerA (.call (.ref fa) ⟨[.ref a],[]⟩) (λr s'=>r=.ok (.ret (.bool true))/\OldK s₁.heap s'.heap/\s'.os=s₁.os/\AllBare s'.gens) s₁:=by
  intro H hO hS hok hA hK;have base_of:∀{b:t7}{o:Obj},s₁.heap.get? b=a_ o->H b=b_->(BQ s₁.heap H).get? b=a_ o:=λe n=>KL e n;have noA:∀{b:t7}{o:Obj}{es:Array n9}{ep:Nat},s₁.heap.get? b=a_ o->o.data=.dict es ep->H b=b_:=λ{b o es ep} e d=>by
   cases q:H b with
   |none=>rfl
   |some u=>have e':b=a:=hA b (by rw[q];simp);subst e';rw[ha]at e;cases e;have d':Data.seq vs.toArray _=Data.dict es ep:=d;cases d'
  have nsK:∀{b:t7}{m:o_ 0},s₁.heap.Ns b m->(BQ s₁.heap H).Ns b m:=λ{b m} ⟨o,es,ep,e,d,r⟩=>⟨o,es,ep,base_of e (noA e d),d,r⟩;have hKb:K.In (BQ s₁.heap H):=λb o e=>base_of (KX b o e) (by
   cases q:H b with
   |none=>rfl
   |some u=>have e':b=a:=hA b (by rw[q];simp);subst e';rw[hK (by rw[q];simp)]at e;cases e)
  have hM:Mod K mg (BQ s₁.heap H):=⟨hKb,nsK hns,⟨mb,nsK hb,hbb⟩,let ⟨mc,h1,h2⟩:=hlim;⟨mc,nsK h1,h2⟩⟩;have e0:A7 P w K mg (BQ s₁.heap H) callerA [] s₁ H:=⟨rfl,hM,λb o e=>OB e,Nat.le_of_eq (J' _ _),trivial,λb hb=>absurd (show b∈([]:ue t7) from hb) (by simp),hok,.of_eq hg⟩
  refine codeAny_mono ((F _ hKb (nsK hns)).run callerA [] s₁ H ⟨[.ref a],[]⟩ [.ref a] [.ref a] _ _ hr e0 (hbind s₁ (.ref a)) (.cons rfl .nil) (hsp H hO hS)) λr s' h=>?_;cases r with
  |error e=>exact(hCX H e s' h).elim
  |ok fl=>
   cases fl with
   |next=>exact j8 h
   |brk=>exact j8 h
   |cont=>exact j8 h
   |ret u=>
    let⟨v,H',os,bare,un,hok',r',q⟩:=h;have q':v=.bl true:=q;subst q';obtain rfl:u=Value.bool true:=r';refine⟨rfl,OldK.of_keep λb o e=>?_,os,bare⟩;cases q:H b with
    |none=>exact un.keep b o e q (by intro z;exact absurd (show b∈([]:ue t7) from z) (by simp)) (by simp)
    |some u=>
     rcases hO b with z|⟨ob,xs,z⟩
     ·rw[q]at z;cases z
     ·have z2:=un.frzs b ob _ z;let⟨e1,_⟩:=hok b _ z;let⟨e2,_⟩:=hok' b _ z2;rw[e]at e1;cases e1;exact e2
 cases hk:K.lookup a with
 |some o=>
  -- the script is one of the module's own objects
  have e:=KX a o hk;rw[ha]at e;cases e
  refine core (λ_=>b_) (λ_=>.inl rfl) (.inr ⟨_,vs.toArray,_,hk,rfl,rfl,rfl,by rw[bh,lenV];exact hl,l_ rv⟩) (λb u z=>by have z':(b_:uf HO)=a_ u:=z;cases z') (λb z=>absurd rfl z) λz=>absurd rfl z
 |none=>
  refine core (λb=>if b=a then a_ (.frz {cls:=.type "list",data:=.seq vs.toArray} (.lst (ns.map V.int))) else b_) (λb=>?_) (.inl (.inr ⟨{cls:=.type "list",data:=.seq vs.toArray},if_pos rfl⟩)) (λb u z=>?_) (λb z=>?_) λ_=>hk
  ·by_cases hb:b=a
   ·exact .inr ⟨_,_,if_pos hb⟩
   ·exact .inl (if_neg hb)
  ·by_cases hb:b=a
   ·have z':=(if_pos hb).symm.trans z;cases z'
    subst hb;exact⟨ha,by rw[aq];exact hl,vs,_,rv,ha⟩
   ·have z':=(if_neg hb).symm.trans z;cases z'
  ·by_cases hb:b=a
   ·exact hb
   ·exact absurd (if_neg hb) z
def walk_of{l:PySem.W.OpenLaw}{XP:(o_ 0)->t_->Prop}{YP:ua->t_->Prop}{d:DefRec}{K:Params->ag}{CX:ua->CXT}{sp:ua->Sp}(hn:l.most=a_ n)(hn2:n<=bp)(hdf:d.params.defaults=[])(hr:gG k callerA)(hY:∀(w:ua)(h:t_),YP w h->(K w.params).In h)(F:∀(w:ua)(mg:o_ 0)(fa:t7)(h:t_),(K w.params).In h->h.Ns fb mg->mg d.name=c_ fa->
   ∃fd:e7,(∀(s:tw)(u:s_),BindsTo s fd ⟨[u],[]⟩ [(x,u)])/\
    ∀base:t_,(K w.params).In base->base.Ns fb mg->bA l.prog w (K w.params) mg base (CX w) k fa fd [x] (sp w))(hsp:∀(w:ua)(H:Hp)(a:t7)(ns:ue Int),ns.length<=n->La H->SqL (K w.params) H a (ns.map V.int)->sp w [.ref a] H (λv _=>v=.bl true) λ_ _ _=>False)(hCX:∀(w:ua)(H:Hp)(s:tw)(e:s_)(s':tw),CX w [] H s (λ_ _ _=>False) e s'->False):
  PySem.W.WalkO q loose XP YP l.row.toRowW d [] (λf vs=>PySem.call f vs):=by
 refine Att.attach_call hn hdf λw s₀ s₁ mg mb fa o pm cd doc a vs ns G Y ho hd hcd hmg hobj hints hlen hg=>?_;have KX:=hY w _ Y;let⟨fd,hb,hF⟩:=F w mg fa _ KX G.T.g hmg;exact Lb KX G.T.g G.T.b G.T.builtins G.T.nolimit hg hobj hints (fv hlen hn2) hr hF hb (λH hO hS=>hsp w H a ns hlen hO hS) λH e s'=>hCX w H s₁ e s'
def inClass(s:ud)(j:Nat):ud:=match s with
 |.ClassDef _ _ _ body _ _ _ _ _ _ _=>body.getD j (.Pass ⟨0,0,0,0⟩)
 |_=>.Pass ⟨0,0,0,0⟩
def bB(s:ud):Arguments:=match s with
 |.FunctionDef _ a _ _ _ _ _ _ _ _=>a
 |_=>{ posonlyargs:=[],args:=[],vararg:=b_,kwonlyargs:=[],kw_defaults:=[],kwarg:=b_,defaults:=[]}
def aX(s:ud):ue ud:=match s with
 |.FunctionDef _ _ b _ _ _ _ _ _ _=>b
 |_=>[]
def aG(s:ud):Scope:=match s with
 |.FunctionDef _ _ _ _ _ _ sc _ _ _=>sc
 |_=>{ kind:=.function,names:=[],isGenerator:=false,isCoroutine:=false}
abbrev CX0:CXT:=λ_ _ _ _ _ _=>False
abbrev E0:XK:=λ_ _ _=>False
def HL:xU CX0 X E0:=λ_ _ _ _ _ _ _ h=>h.elim
structure Fun(K:ag)(x qual:Str)(st:ud)(f:t7)(fd:e7):Prop where
 ex:∃(oc:s_)(od:uf t7)(kV doc pm:s_)(an:uf t7)(cdv ct:s_)(osl:n_ 0),
  fd=dw x qual (bB st) (aX st) (aG st) .none kV doc pm an cdv ct/\K.lookup f=some ⟨oc,od,.func fd,osl⟩/\d0 K cdv qual=true
 kp:dg K (.ref f)=true
section
variable{P:ub}{w:ua}{K:ag}{mg:o_ 0}{base:t_}
theorem Fun.ok{x qual:Str}{st:ud}{f:t7}{fd:e7}{N ps:ue Str}{k:Nat}{sp:Sp}(F:Fun K x qual st f fd)(S:bL N ps (aG st))(len:∀vs H Q E,sp vs H Q E->vs.length=ps.length)
  (hbody:∀(cdv:s_)(A:t9)(outer:ue Env)(s:tw)(H:Hp)(vs:ue V)(Q:VK)(E:XK),gG k (A.deeper (envOfC qual (aG st) (e_ s) f cdv))->sp vs H Q E->
   ∃t,PSs (FJ CX0 P w K mg base N qual (aG st) f cdv A outer s H E).nox (aX st) t/\t { nx:=λ_ H'=>Q .non H',rt:=Q} (start N vs) H):bA P w K mg base CX0 (k+1) f fd ps sp:=by
 let⟨oc,od,kV,doc,pm,an,cdv,ct,osl,rfl,lk,hcd⟩:=F.ex;refine V' lk hcd S len λA outer s H vs Q E hr hsp=>?_;let⟨t,h,q⟩:=hbody cdv A outer s H vs Q E hr hsp;exact⟨t,h.nox,q⟩
theorem Fun.binds{x qual:Str}{st:ud}{f:t7}{fd:e7}{ps:ue Str}(F:Fun K x qual st f fd)
  (h:∀(kV doc pm:s_)(an:uf t7)(cdv ct:s_)(us:ue s_),us.length=ps.length->bindArgs (dw x qual (bB st) (aX st) (aG st) .none kV doc pm an cdv ct) ⟨us,[]⟩=pure (ps.zip us)):Binds K fd ps []:=by
 let⟨oc,od,kV,doc,pm,an,cdv,ct,osl,rfl,lk,hcd⟩:=F.ex;exact .all (h kV doc pm an cdv ct)
def qE{x qual:Str}{st:ud}{f:t7}{oc:s_}{od an:uf t7}{osl:n_ 0}{kV doc pm cdv ct:s_}(l:K.lookup f=a_ ⟨oc,od,.func (dw x qual (bB st) (aX st) (aG st) .none kV doc pm an cdv ct),osl⟩)
  (c:d0 K cdv qual=true) (k:dg K (.ref f)=true):Fun K x qual st f (dw x qual (bB st) (aX st) (aG st) .none kV doc pm an cdv ct):=⟨⟨oc,od,kV,doc,pm,an,cdv,ct,osl,rfl,l,c⟩,k⟩
end
def Vg{A:t9}(hr:gG k A):A.units+1<cLine:=Nat.lt_of_le_of_lt (Nat.add_le_add_left (by decide:1<=64) _) hr.units
section
variable{X:Cx}
def pv(i:Nat){x:Str}{pos:Pos}(hN:X.N[i]?=a_ x:=by rfl)(hv:Vis X.env.scope x:=by first|exact Or.inl rfl|exact Or.inr (Or.inl rfl)|exact Or.inr (Or.inr rfl))(hd:(x == ("__debug__" : Str))=false:=by decide)
  (hcd:(x == ("__classdict__" : Str))=false:=by decide):PE X (.Name x pos) (UW i):=KM hN hv hd hcd
end
def Lc{A B:Prop}(h:B):if false=true then A else B:=by rw[if_neg cu];exact h
def Ld{A B:Prop}(h:A):if true=true then A else B:=by rw[if_pos rfl];exact h
def Aa(H H':Hp):Prop:=∀b o,H b=a_ o->H' b=a_ o
section
variable{κ:Type}[DecidableEq κ]
def nL(kvs:ue (κ×V))(k:κ):uf V:=(kvs.find? λkv=>decide (kv.1=k)).map (·.2)
def putK(kvs:ue (κ×V))(k:κ)(v:V):ue (κ×V):=if(kvs.any λkv=>decide (kv.1=k))=true then kvs.map (λkv=>if kv.1=k then(kv.1,v) else kv) else kvs++[(k,v)]
def rB{p:κ×V}{r:ue (κ×V)}{k:κ}(e:p.1=k):nL (p::r) k=a_ p.2:=by simp[nL,l0,e]
def rC{p:κ×V}{r:ue (κ×V)}{k:κ}(e:¬ p.1=k):nL (p::r) k=nL r k:=by simp[nL,l0,e]
theorem xW(k:κ):∀kvs:ue (κ×V),(kvs.any λkv=>decide (kv.1=k))=(nL kvs k).isSome
 |[]=>rfl
 |p::r=>by
  rw[ou];by_cases e:p.1=k
  ·simp only[rB e,decide_eq_true e,Bool.true_or,sj]
  ·rw[rC e,decide_eq_false e,Bool.false_or];exact xW k r
def nO(kvs:ue (κ×V))(k:κ)(v:V):(putK kvs k v).length<=kvs.length+1:=by
 unfold putK;split
 ·rw[aq];omega
 ·rw[az,dm,List.length_nil];omega
theorem pN.isSome_eq{o:uf V}{u:uf s_}(r:pN o u):o.isSome=u.isSome:=by
 cases o with
 |none=>cases u with
  |none=>rfl
  |some _=>exact(show False from r).elim
 |some _=>cases u with
  |none=>exact(show False from r).elim
  |some _=>rfl
theorem KV.val{kvs:ue (κ×V)}{vs:ue (κ×s_)}(r:KV kvs vs)(k:κ):pN (nL kvs k) (valueAt vs k):=by
 unfold KV at r
 induction r with
 |nil=>exact pe
 | @cons p q ps qs h t ih=>
  let⟨h1,h2⟩:=h;by_cases e:p.1=k
  ·have e':q.1=k:=h1.symm.trans e;have b:valueAt (q::qs) k=a_ q.2:=by simp[valueAt,l0,e']
   rw[rB e,b];exact h2
  ·have e':¬ q.1=k:=λz=>e (h1.trans z);have b:valueAt (q::qs) k=valueAt qs k:=by simp[valueAt,l0,e']
   rw[rC e,b];exact ih
theorem KV.any{kvs:ue (κ×V)}{vs:ue (κ×s_)}(r:KV kvs vs)(k:κ):(kvs.any λkv=>decide (kv.1=k))=vs.any λkv=>decide (kv.1=k):=by
 unfold KV at r
 induction r with
 |nil=>rfl
 |cons h t ih=>rw[ou,ou,ih,h.1]
theorem KV.repl{kvs:ue (κ×V)}{vs:ue (κ×s_)}(r:KV kvs vs)(k:κ)(ry:RelV y u):
  KV (kvs.map λkv=>if kv.1=k then(kv.1,y) else kv) (vs.map λkv=>if kv.1=k then(kv.1,u) else kv):=by
 unfold KV at r⊢
 induction r with
 |nil=>exact .nil
 | @cons p q ps qs h t ih=>
  rw[dn,dn];refine .cons ?_ ih;let⟨h1,h2⟩:=h;by_cases e:p.1=k
  ·rw[if_pos e,if_pos (h1.symm.trans e)];exact⟨h1,ry⟩
  ·rw[if_neg e,if_neg (λz=>e (h1.trans z))];exact⟨h1,h2⟩
theorem KV.put(r:KV kvs vs)(k:κ)(ry:RelV y u):KV (putK kvs k y) (stored vs k u):=by
 unfold putK stored;rw[r.any k];by_cases e:(vs.any λkv=>decide (kv.1=k))=true
 ·rw[if_pos e,if_pos e];exact r.repl k ry
 ·rw[if_neg e,if_neg e];exact Paired.snoc r ⟨rfl,ry⟩
theorem KV.length{kvs:ue (κ×V)}{vs:ue (κ×s_)}(r:KV kvs vs):kvs.length=vs.length:=ft r
end
def AU(r:RelV (kV k) u):(dC P w).is k u=true:=by
 cases k with
 |inl i=>let⟨t,e⟩:=(show ∃t,u=Value.int i t from r);subst e;exact Dv P w i t
 |inr x=>let⟨t,e⟩:=(show ∃t,u=Value.str x t from r);subst e;exact Dw P w x t
theorem AV:∀{ks:ue Key}{us:ue s_},aR (ks.map kV) us->ItemsAre (dC P w) ks us
 |[],_,r=>by rw[List.map_nil]at r;cases r;exact .nil
 |k::ks,_,r=>by
  rw[dn]at r;cases r with
  |cons h t=>exact .cons (AU h) (AV t)
abbrev KT(H:Hp):ue (ue Key×V)->ue (ue Key×t7×s_)->Prop:=Paired λp q=>p.1=q.1/\H q.2.1=a_ (.tup (p.1.map kV))/\RelV p.2 q.2.2
theorem KT.val{H:Hp}{kvs:ue (ue Key×V)}{xs:ue (ue Key×t7×s_)}(r:KT H kvs xs)(k:ue Key):pN (nL kvs k) ((atKey xs k).map (·.2)):=by
 induction r with
 |nil=>exact pe
 | @cons p q ps qs h t ih=>
  let⟨h1,_,h2⟩:=h;by_cases e:p.1=k
  ·have e':q.1=k:=h1.symm.trans e;have b:atKey (q::qs) k=a_ q.2:=by simp[atKey,l0,e']
   rw[rB e,b];exact h2
  ·have e':¬ q.1=k:=λz=>e (h1.trans z);have b:atKey (q::qs) k=atKey qs k:=by simp[atKey,l0,e']
   rw[rC e,b];exact ih
theorem KT.repl{kvs:ue (ue Key×V)}{xs:ue (ue Key×t7×s_)}(r:KT H kvs xs)(k:ue Key)(ry:RelV y u):
  KT H (kvs.map λkv=>if kv.1=k then(kv.1,y) else kv) (xs.map (putAt k u)):=by
 induction r with
 |nil=>exact .nil
 | @cons p q ps qs h t ih=>
  rw[dn,dn];refine .cons ?_ ih;let⟨h1,h2,h3⟩:=h;unfold putAt;by_cases e:p.1=k
  ·rw[if_pos e,if_pos (h1.symm.trans e)];exact⟨h1,h2,ry⟩
  ·rw[if_neg e,if_neg (λz=>e (h1.trans z))];exact⟨h1,h2,h3⟩
theorem KT.put(r:KT H kvs xs)(k:ue Key)(hb:H b=a_ (.tup (k.map kV)))(ry:RelV y u):
  KT H (putK kvs k y) (storedH xs k b u):=by
 have e:(kvs.any λkv=>decide (kv.1=k))=(atKey xs k).isSome:=by rw[xW,(r.val k).isSome_eq,Option.isSome_map]
 unfold putK storedH;rw[e];by_cases q:(atKey xs k).isSome=true
 ·rw[if_pos q,if_pos q];exact r.repl k ry
 ·rw[if_neg q,if_neg q];exact Paired.snoc r ⟨rfl,hb,ry⟩
theorem KT.keeps(r:KT H kvs xs)(ht:∀b ys,H b=a_ (.tup ys)->H' b=a_ (.tup ys)):KT H' kvs xs:=Paired.mapP r λ_ _ z=>⟨z.1,ht _ _ z.2.1,z.2.2⟩
section
variable{P:ub}{w:ua}{H:Hp}{h:t_}{a:t7}
def RD(ok:HOk P w H h)(e:Rd H a u):dS P w H h a u:=e.ok ok
def xX{kvs:ue (Key×V)}(ok:HOk P w H h)(e:Rd H a (.dK kvs)):kvs.length<=bp/\(a == j7)=false/\∃vs,KV kvs vs/\h.DictOf (dC P w) a vs:=show dS P w H h a (.dK kvs) from RD ok e
def HM{kvs:ue (Key×V)}(ok:HOk P w H h)(e:H a=a_ (.dK kvs)):kvs.length<=bp/\(a == j7)=false/\∃vs,KV kvs vs/\h.DictOf (dC P w) a vs:=xX ok (.inl e)
def xY{ks:ue Key}(ok:HOk P w H h)(e:H a=a_ (.tup (ks.map kV))):(tupleKind (dC P w)).is h ks a:=by
 let⟨_,its,r,o,h1,h2,⟨n,h3⟩,_⟩:=(show dS P w H h a (.tup (ks.map kV)) from ok a _ e)
 exact⟨o,its.toArray,n,h1,h2,h3,by simpa using AV r⟩
def DE{kvs:ue (ue Key×V)}(ok:HOk P w H h)(e:Rd H a (.dT kvs)):kvs.length<=bp/\(a == j7)=false/\
  ∃xs,KT H kvs xs/\h.DictOfH (tupleKind (dC P w)) a xs:=by
 let⟨z,y,xs,r,o,es,ep,h1,h2,h3,h4,h5⟩:=(show dS P w H h a (.dT kvs) from RD ok e)
 refine⟨z,y,xs,r,o,es,ep,h1,h2,h3,h4,λx hx=>?_,h5⟩;have all:∀{l:ue (ue Key×V)}{m:ue (ue Key×t7×s_)},KT H l m->∀x∈m,(tupleKind (dC P w)).is h x.1 x.2.1:=by
  intro l m q
  induction q with
  |nil=>intro x hx;exact nomatch hx
  | @cons p q ps qs hq t ih=>
   intro x hx;rcases bx.mp hx with e|hx
   ·subst e;exact xY ok (by rw[<-hq.1];exact hq.2.1)
   ·exact ih x hx
 exact all r x hx
def Vh{kvs:ue (ue Key×V)}(ok:HOk P w H h)(e:H a=a_ (.dT kvs)):kvs.length<=bp/\(a == j7)=false/\
  ∃xs,KT H kvs xs/\h.DictOfH (tupleKind (dC P w)) a xs:=DE ok (.inl e)
end
def tT(H:Hp)(a:t7)(y:V)(r:uf V):Prop:=(∃kvs k,Rd H a (.dK kvs)/\y=kV k/\r=nL kvs k)\/∃kvs k b,Rd H a (.dT kvs)/\y=.ref b/\H b=a_ (.tup (k.map kV))/\r=nL kvs k
def SY(H:Hp)(a:t7)(y v:V)(H':Hp):Prop:=
 (∃kvs k,H a=a_ (.dK kvs)/\y=kV k/\kvs.length<bp/\H'=upd H a (.dK (putK kvs k v)))\/
 ∃kvs k b,H a=a_ (.dT kvs)/\y=.ref b/\H b=a_ (.tup (k.map kV))/\kvs.length<bp/\H'=upd H a (.dT (putK kvs k v))
theorem tT.k{H:Hp}{a:t7}{kvs:ue (Key×V)}{k:Key}(e:H a=a_ (.dK kvs)):tT H a (kV k) (nL kvs k):=.inl ⟨kvs,k,.inl e,rfl,rfl⟩
theorem SY.k{H:Hp}{a:t7}{kvs:ue (Key×V)}{k:Key}{v:V}(e:H a=a_ (.dK kvs))(hl:kvs.length<bp):SY H a (kV k) v (upd H a (.dK (putK kvs k v))):=.inl ⟨kvs,k,e,rfl,hl,rfl⟩
section
variable{X:Cx}{pins:g_ 0}{σ:St}{H:Hp}{s:tw}{a:t7}{y v:V}{u r:s_}{o:uf V}{A:t9}{E:f_ 0}
theorem Inv.big(I:Inv X pins σ H s):j7<(e_ s):=by have h:fb<(e_ s):=(I.mod.glob.keeps I.bk).lt;exact qe nofun h
def Jk{Q:f_ 0}(hu:A.units+1<cLine)(I:Inv X pins σ H s)(g:tT H a y (a_ v))(ry:RelV y u)(h:∀w' s',Inv X pins σ H s'->RelV v w'->Q w' s'):
  wpAny (h_ X) A (getItem (.ref a) u) Q E s:=by
 rcases g with⟨kvs,k,e,ey,l⟩|⟨kvs,k,b,e,ey,eb,l⟩
 ·subst ey;let⟨z,hd,vs,rel,dd⟩:=xX I.hok e;let⟨w',hw,rw'⟩:=pN.some_of (v:=v) (o:=valueAt vs k) (by rw[l];exact rel.val k);exact wpAny_getItem_of (AU ry) dd.mapOf hw (h w' _ (I.tok _) rw')
 ·subst ey;cases(show u=dh b from ry)
  let⟨z,hd,xs,rel,dd⟩:=DE I.hok e;let⟨w',hw,rw'⟩:=pN.some_of (v:=v) (o:=(atKey xs k).map (·.2)) (by rw[l];exact rel.val k);let⟨p,hp,hp2⟩:=br.mp hw;refine wpAny_getItem_heap (tupleKind_room_in1 hu) (xY I.hok eb) dd hp ?_;rw[hp2];exact h w' _ (I.tok _) rw'
def Xo{Q:f_ 0}(hu:A.units+1<cLine)(I:Inv X pins σ H s)(g:tT H a y o)(ry:RelV y u)(h:∀s',Inv X pins σ H s'->Q (.bool o.isSome) s'):
  wpAny (h_ X) A (d6 .In u (.ref a)) Q E s:=by
 rcases g with⟨kvs,k,e,ey,l⟩|⟨kvs,k,b,e,ey,eb,l⟩
 ·subst ey;let⟨z,hd,vs,rel,dd⟩:=xX I.hok e;refine wpAny_in_of (AU ry) hd dd.mapOf ?_;rw[<-(rel.val k).isSome_eq,<-l];exact h _ (I.tok _)
 ·subst ey;cases(show u=dh b from ry)
  let⟨z,hd,xs,rel,dd⟩:=DE I.hok e;refine wpAny_in_heap (tupleKind_room_in1 hu) (xY I.hok eb) hd dd ?_;have q:=(rel.val k).isSome_eq;rw[Option.isSome_map]at q;rw[<-q,<-l];exact h _ (I.tok _)
def OV{Q:f_ 0}(hu:A.units+1<cLine)(I:Inv X pins σ H s)(g:tT H a y o)(ry:RelV y u)(h:∀s',Inv X pins σ H s'->Q (.bool (!o.isSome)) s'):
  wpAny (h_ X) A (d6 .NotIn u (.ref a)) Q E s:=by
 rcases g with⟨kvs,k,e,ey,l⟩|⟨kvs,k,b,e,ey,eb,l⟩
 ·subst ey;let⟨z,hd,vs,rel,dd⟩:=xX I.hok e;refine wpAny_notIn_of (AU ry) hd dd.mapOf ?_;rw[<-(rel.val k).isSome_eq,<-l];exact h _ (I.tok _)
 ·subst ey;cases(show u=dh b from ry)
  let⟨z,hd,xs,rel,dd⟩:=DE I.hok e;refine wpAny_notIn_heap (tupleKind_room_in1 hu) (xY I.hok eb) hd dd ?_;have q:=(rel.val k).isSome_eq;rw[Option.isSome_map]at q;rw[<-q,<-l];exact h _ (I.tok _)
def xC{h':t_}(I:Inv X pins σ H s)(mu:Mut (H a))(hs:mx a s.heap h')(he:∃q,h'.get? a=a_ q)(new:dS X.prog X.w (upd H a ob) h' a ob):
  Inv X pins σ (upd H a ob) {s with heap:=h',toks:=t'}:=
 I.write (x:=a) (e:=a) mu (.inl rfl) (λb q hb z=>(hs.2 b hb).trans z) he new
def FN{h':t_}{kvs:ue (Key×V)}(z:kvs.length<=bp)(hd:(a == j7)=false)(rel:KV kvs vs)(dd:h'.DictOf (dC P w) a vs):
  dS P w H' h' a (.dK kvs):=⟨z,hd,vs,rel,dd⟩
def Jl{Q:j_ Unit}(hu:A.units+1<cLine)(I:Inv X pins σ H s)(g:SY H a y v H')(ry:RelV y u)(rv:RelV v r)(h:∀s',Inv X pins σ H' s'->Q () s'):
  wpAny (h_ X) A (setItem (.ref a) u r) Q E s:=by
 rcases g with⟨kvs,k,e,ey,l,eH⟩|⟨kvs,k,b,e,ey,eb,l,eH⟩
 ·subst ey eH;let⟨z,hd,vs,rel,dd⟩:=HM I.hok e;have hz:vs.length<=bp:=by rw[<-rel.length];exact z
  have hl:(putK kvs k v).length<=bp:=by have:=nO kvs k v;omega
  refine wpAny_setItem_pairs (hsz:=hz) (AU ry) dd λh' dd' hs=>h _ ?_;have he:∃q,h'.get? a=a_ q:=let ⟨q,_,_,hq,_⟩:=dd';⟨q,hq⟩;exact xC I (by rw[e];exact pe) hs he (FN hl hd (rel.put k rv) dd')
 ·subst ey eH;cases(show u=dh b from ry)
  let⟨z,hd,xs,rel,dd⟩:=Vh I.hok e;have hz:xs.length<=bp:=by rw[<-ft rel];exact z
  have hl:(putK kvs k v).length<=bp:=by have:=nO kvs k v;omega
  refine wpAny_setItem_heap (hsz:=hz) (tupleKind_room_in1 hu) (xY I.hok eb) dd λh' dd' hs=>h _ ?_;let⟨q,es,ep,hq,h2,h3,h4,_,h5⟩:=dd';refine xC I (by rw[e];exact pe) hs ⟨q,hq⟩ ⟨hl,hd,_,(rel.put k eb rv).keeps λc ys ec=>?_,q,es,ep,hq,h2,h3,h4,h5⟩;rw[aV (UU ec e (λz=>nomatch z))];exact ec
end
section
variable{X:Cx}{pins:g_ 0}{σ:St}{H:Hp}{s:tw}{a:t7}{kvs:ue (Key×V)}{k:Key}{u:s_}{A:t9}{E:f_ 0}
def Vi{Q:f_ 0}(I:Inv X pins σ H s)(e:Rd H a (.dK kvs))(h:∀t s',Inv X pins σ H s'->Q (.int kvs.length t) s'):wpAny (h_ X) A (call (.builtin "len") [.ref a]) Q E s:=by let⟨z,hd,vs,rel,dd⟩:=xX I.hok e;refine call_len_dict hd dd (by rw[<-rel.length];rw[fm]at z;omega) ?_;rw[<-rel.length];exact h _ _ (I.tok _)
end
def DF{X:Cx}{pins:g_ 0}{σ:St}{H:Hp}{s:tw}{a:t7}{y:V}{o:uf V}(I:Inv X pins σ H s)(g:tT H a y o):s.TypeIs (.ref a) "dict" := by
 rcases g with⟨kvs,k,e,_,_⟩|⟨kvs,k,b,e,_,_,_⟩
 ·let⟨_,_,vs,_,dd⟩:=xX I.hok e;exact dd.typeIs
 ·let⟨_,_,xs,_,dd⟩:=DE I.hok e;exact dd.typeIs
def Le(h:t_)(hb:j7<h.objs.size):dS P w H (h.push {cls:=.type "dict",data:=.dict #[]}) h.objs.size (.dK []):=⟨cv _,beq_eq_false_iff_ne.mpr (iz (bu hb)),[],.nil,Heap.DictOf.new h⟩
def SZ:TE:=λ_ H Q=>∀p,H p=b_->Q (.ref p) (upd H p (.dK []))
section
variable{X:Cx}{pos:Pos}
def Lf:PE X (.Dict [] [] pos) SZ:=λpins s σ H Q I h=>wpAny_Dict_empty ⟨.ref (e_ s),_,I.laid (a:=(e_ s)) (o:=.dK []) (t':=s.toks) (λ_ _ q=>ae _ q) (bq _) (Le s.heap I.big),rfl,h _ (I.hok.fresh (bq _))⟩
end
def tU(kvs more:ue (Key×V)):ue (Key×V):=more.foldl (λacc kv=>putK acc kv.1 kv.2) kvs
theorem KV.merge:∀{more:ue (Key×V)}{rs:ue (Key×s_)}{kvs:ue (Key×V)}{vs:ue (Key×s_)},KV more rs->KV kvs vs->KV (tU kvs more) (merged vs rs):=by
 intro more rs kvs vs r;unfold KV at r
 induction r generalizing kvs vs with
 |nil=>intro q;exact q
 | @cons p q ps qs h t ih=>
  intro r0;have e:KV (putK kvs p.1 p.2) (stored vs q.1 q.2):=by have:=r0.put p.1 h.2;rw[<-h.1];exact this
  exact ih e
theorem pR:∀(more kvs:ue (Key×V)),(tU kvs more).length<=kvs.length+more.length
 |[],kvs=>by show kvs.length<=kvs.length+0;omega
 |p::r,kvs=>by
  have h1:=pR r (putK kvs p.1 p.2);have h2:=nO kvs p.1 p.2
  show(tU (putK kvs p.1 p.2) r).length<=_
  rw[dm];omega
structure M1(X:Cx)(o:uc)(m:Str)(apos:Pos)(e:uc)(cpos:Pos):Prop where
 base:my o m X.env (eval o X.env)=eval o X.env
 few:((backTo cpos (da [e] X.env)).all (λx=>!x.1)&&(backToKw cpos (keywordEach [] X.env)).all (λx=>x.1.isSome)
  && decide (([e]:ue uc).length+([]:ue Keyword).length+(if([]:ue Keyword).isEmpty then 0 else 1)<30))=true
 line:(apos.endLine == cpos.line)=true
 trees:backTo cpos (da [e] X.env)=[(false,eval e X.env)]
structure M2(X:Cx)(o:uc)(m:Str)(apos:Pos)(e f:uc)(cpos:Pos):Prop where
 base:my o m X.env (eval o X.env)=eval o X.env
 few:((backTo cpos (da [e,f] X.env)).all (λx=>!x.1)&&(backToKw cpos (keywordEach [] X.env)).all (λx=>x.1.isSome)
  && decide (([e,f]:ue uc).length+([]:ue Keyword).length+(if([]:ue Keyword).isEmpty then 0 else 1)<30))=true
 line:(apos.endLine == cpos.line)=true
 trees:backTo cpos (da [e,f] X.env)=[(false,eval e X.env),(false,eval f X.env)]
section
variable{X:Cx}{pins:g_ 0}{σ:St}{H:Hp}{s:tw}{a:t7}{kvs:ue (Key×V)}{A:t9}{E:f_ 0}
def Lg{Q:f_ 0}(I:Inv X pins σ H s)(e:Rd H a (.dK kvs))(h:∀p s',H p=b_->Inv X pins σ (upd H p (.dK kvs)) s'->Q (.ref p) s'):wpAny (h_ X) A (call (.type "dict") [.ref a]) Q E s:=by let⟨z,hd,vs,rel,dd⟩:=xX I.hok e;refine kt_call_dict hd dd (by rw[<-rel.length];exact z) λh' dd' hs=>?_;refine h _ _ (I.hok.fresh (bq _)) (I.laid (a:=(e_ s)) (o:=.dK kvs) (t':=s.toks) (λb q hq=>?_) (bq _) (FN z (beq_eq_false_iff_ne.mpr (iz (bu I.big))) rel dd'));exact(hs.2 b (bu (bf hq))).trans (ae _ hq)
end
section
variable{X:Cx}
def Jm:iH X (.builtin "len") (λxs H Q=>∃a kvs,xs=[V.ref a]/\H a=a_ (.dK kvs)/\Q (.int kvs.length) H):=by
 intro pins s σ H xs us Q I r h;let⟨a,kvs,rfl,ha,q⟩:=h;let⟨u,rfl,ru⟩:=vals1 r;cases ru
 exact Vi I (.inl ha) λt s' I'=>⟨.int kvs.length,H,I',⟨t,rfl⟩,q⟩
end
def cO:Bool->Keyed->Array Keyed->Nat->Nat->Nat->StateT SortSt Sem (uf Nat):=sortPriv% PySem.Builtin.gallop
def fS(left:Bool)(key:Keyed)(arr:Array Keyed)(base i:Nat):StateT SortSt Sem (uf Bool):=do
  let x <-elem' arr (base+i)
  if left then lt' x key else return(<-lt' key x).map (!·)
def BY(left:Bool)(key:Keyed)(arr:Array Keyed)(base n lo hi:Nat):StateT SortSt Sem (uf Nat):=do
 let mut lo:=lo
 let mut hi:=hi
 for _ in [0:n] do
  if lo >= hi then break
  let m:=lo+(hi-lo)/2
  let a_ more <-fS left key arr base m|return b_
  if more then lo:=m+1 else hi:=m
 return a_ hi
def RF(left:Bool)(key:Keyed)(arr:Array Keyed)(base n hint:Nat):StateT SortSt Sem (uf Nat):=do
 let mut lastofs:=0
 let mut ofs:=1
 let maxofs:=n-hint
 for _ in [0:n] do
  if ofs >= maxofs then break
  let a_ more <-fS left key arr base (hint+ofs)|return b_
  if !more then break
  lastofs:=ofs
  ofs:=2*ofs+1
 BY left key arr base n (hint+lastofs+1) (hint+min ofs maxofs)
def RG(left:Bool)(key:Keyed)(arr:Array Keyed)(base n hint:Nat):StateT SortSt Sem (uf Nat):=do
 let mut lastofs:=0
 let mut ofs:=1
 let maxofs:=hint+1
 for _ in [0:n] do
  if ofs >= maxofs then break
  let a_ found <-fS left key arr base (hint-ofs)|return b_
  if found then break
  lastofs:=ofs
  ofs:=2*ofs+1
 BY left key arr base n (hint+1-min ofs maxofs) (hint-lastofs)
def FO(left:Bool)(key:Keyed)(arr:Array Keyed)(base n hint:Nat):cO left key arr base n hint=(do
 let a_ right <-fS left key arr base hint|return b_
 if right then RF left key arr base n hint else RG left key arr base n hint):=rfl
section
variable{M:Model}{A:t9}{E:f_ 0}{s:tw}
variable{left:Bool}{key:Keyed}{arr:Array Keyed}{base n hint:Nat}{bey:Nat->Bool}{st:SortSt}{Q:uf Nat->SortSt->Prop}
def gJ{lo hi:Nat}(hb:∀i,i<n->∀Q':uf Bool->SortSt->Prop,Q' (a_ (bey i)) st->wpS M A E s (fS left key arr base i) Q' st)
  (mono:∀i j,i<=j->j<n->bey j=true->bey i=true) (h1:lo<=hi) (h2:hi<=n) (h3:∀i,i<lo->bey i=true) (h4:∀i,hi<=i->i<n->bey i=false)
  (k:∀r,r<=n->(∀i,i<r->bey i=true)->(∀i,r<=i->i<n->bey i=false)->Q (a_ r) st):
  wpS M A E s (BY left key arr base n lo hi) Q st:=by
 unfold BY;refine bw (iy (λi c st'=>st'=st/\∃lo hi,c=(b_,lo,hi)/\lo<=hi/\hi<=n/\hi-lo<=n-i/\(∀i,i<lo->bey i=true)/\∀i,hi<=i->i<n->bey i=false) (λi c st' _ hi=>?_) (λc st'=>?_) ⟨rfl,lo,hi,rfl,h1,h2,⋯,h3,h4⟩)
 ·rintro⟨rfl,lo,hi,rfl,a1,a2,a3,a4,a5⟩;dsimp only;by_cases c:lo >= hi
  ·rw[if_pos c];refine cj (cj (k hi a2 (λi q=>a4 i ⋯) a5))
  ·rw[if_neg c];refine bw (hb (lo+(hi-lo)/2) ⋯ _ ?_);dsimp only;cases e:bey (lo+(hi-lo)/2) with
   |true=>rw[if_pos rfl];exact cj ⟨rfl,_,_,rfl,⋯,a2,⋯,λi q=>mono i _ ⋯ ⋯ e,a5⟩
   |false=>
    rw[if_neg nofun];refine cj ⟨rfl,_,_,rfl,⋯,⋯,⋯,a4,λi q1 q2=>?_⟩;cases e2:bey i with
    |false=>rfl
    |true=>rw[mono _ i q1 q2 e2]at e;cases e
 ·rintro⟨rfl,lo,hi,rfl,a1,a2,a3,a4,a5⟩;dsimp only;exact cj (k hi a2 (λi q=>a4 i ⋯) a5)
def iW(hb:∀i,i<n->∀Q':uf Bool->SortSt->Prop,Q' (a_ (bey i)) st->wpS M A E s (fS left key arr base i) Q' st)
  (mono:∀i j,i<=j->j<n->bey j=true->bey i=true) (hh:hint<n)
  (k:∀r,r<=n->(∀i,i<r->bey i=true)->(∀i,r<=i->i<n->bey i=false)->Q (a_ r) st):
  wpS M A E s (cO left key arr base n hint) Q st:=by
 have anti:∀i j,i<=j->j<n->bey i=false->bey j=false:=λi j h1 h2 h3=>by
  cases e:bey j with
  |false=>rfl
  |true=>rw[mono i j h1 h2 e]at h3;cases h3
 rw[FO];refine bw (hb hint hh _ ?_);dsimp only;cases e:bey hint with
 |true=>
  rw[if_pos rfl];unfold RF;refine bw (iy (λi c st'=>st'=st/\∃la of,c=(b_,la,of)/\la<of/\i<of/\hint+la<n/\bey (hint+la)=true) (λi c st' _ hi=>?_) (λc st'=>?_) ⟨rfl,0,1,rfl,⋯,⋯,hh,e⟩)
  ·rintro⟨rfl,la,of,rfl,a1,a2,a3,a4⟩;dsimp only;by_cases c:of >= n-hint
   ·rw[if_pos c];refine cj ?_;dsimp only;exact gJ hb mono ⋯ ⋯ (λi q=>mono i _ ⋯ a3 a4) (λi q1 q2=>by omega) k
   ·rw[if_neg c];refine bw (hb (hint+of) ⋯ _ ?_);dsimp only;cases e2:bey (hint+of) with
    |true=>rw[if_neg nofun];exact cj ⟨rfl,_,_,rfl,⋯,⋯,⋯,e2⟩
    |false=>rw[if_pos nofun];refine cj ?_;dsimp only;exact gJ hb mono ⋯ ⋯ (λi q=>mono i _ ⋯ a3 a4) (λi q1 q2=>anti _ i ⋯ q2 e2) k
  ·rintro⟨rfl,la,of,rfl,a1,a2,a3,a4⟩;dsimp only;exact gJ hb mono ⋯ ⋯ (λi q=>mono i _ ⋯ a3 a4) (λi q1 q2=>by omega) k
 |false=>
  rw[if_neg nofun];unfold RG;refine bw (iy (λi c st'=>st'=st/\∃la of,c=(b_,la,of)/\la<of/\i<of/\la<=hint/\bey (hint-la)=false) (λi c st' _ hi=>?_) (λc st'=>?_) ⟨rfl,0,1,rfl,⋯,⋯,⋯,e⟩)
  ·rintro⟨rfl,la,of,rfl,a1,a2,a3,a4⟩;dsimp only;by_cases c:of >= hint+1
   ·rw[if_pos c];refine cj ?_;dsimp only;exact gJ hb mono ⋯ ⋯ (λi q=>by omega) (λi q1 q2=>anti _ i ⋯ q2 a4) k
   ·rw[if_neg c];refine bw (hb (hint-of) ⋯ _ ?_);dsimp only;cases e2:bey (hint-of) with
    |true=>rw[if_pos rfl];refine cj ?_;dsimp only;exact gJ hb mono ⋯ ⋯ (λi q=>mono i (hint-of) ⋯ ⋯ e2) (λi q1 q2=>anti _ i ⋯ q2 a4) k
    |false=>rw[if_neg nofun];exact cj ⟨rfl,_,_,rfl,⋯,⋯,⋯,e2⟩
  ·rintro⟨rfl,la,of,rfl,a1,a2,a3,a4⟩;dsimp only;exact gJ hb mono ⋯ ⋯ (λi q=>by omega) (λi q1 q2=>anti _ i ⋯ q2 a4) k
end
def xZ:Array Keyed->Array Keyed->StateT SortSt Sem (Array Keyed):=sortPriv% PySem.Builtin.mergeLo
abbrev tV(g:Nat)(st:SortSt):SortSt:=SortSt.mk' (kindOf st) (arrOf st) (d8 st) g (m4 st)
def cU(g:Nat):StateT SortSt Sem Unit:=modify (tV g)
def dZ(a b:Array Keyed)(out:Array Keyed)(ia ib:Nat):=out++a.extract ia a.size++b.extract ib b.size
def iX(a b:Array Keyed)(out:Array Keyed)(ia ib:Nat):=out++b.extract ib b.size++a.extract ia a.size
def DG(a b:Array Keyed):xZ a b=(do
 rule "list.sort.merge-lo"
 let total:=a.size+b.size
 let mut out:Array Keyed:=#[<-elem' b 0]
 let mut ia:=0
 let mut ib:=1
 if ib == b.size then return dZ a b out ia ib
 if ia+1 == a.size then return iX a b out ia ib
 let mut minGallop:=gallopOf (<-get)
 for _ in [0:total] do
  let mut acount:=0
  let mut bcount:=0
  for _ in [0:total] do
   let a_ bWins <-lt' (<-elem' b ib) (<-elem' a ia)|return dZ a b out ia ib
   if bWins then
    out:=out.push (<-elem' b ib);ib:=ib+1;bcount:=bcount+1;acount:=0
    if ib == b.size then return dZ a b out ia ib
    if bcount >= minGallop then break
   else
    out:=out.push (<-elem' a ia);ia:=ia+1;acount:=acount+1;bcount:=0
    if ia+1 == a.size then return iX a b out ia ib
    if acount >= minGallop then break
  rule "list.sort.gallop"
  minGallop:=minGallop+1
  for _ in [0:total] do
   if minGallop>1 then minGallop:=minGallop-1
   cU minGallop
   let a_ k <-cO false (<-elem' b ib) a ia (a.size-ia) 0|return dZ a b out ia ib
   acount:=k
   if k>0 then
    out:=out++a.extract ia (ia+k);ia:=ia+k
    if ia+1 == a.size then return iX a b out ia ib
    if ia == a.size then return dZ a b out ia ib
   out:=out.push (<-elem' b ib);ib:=ib+1
   if ib == b.size then return dZ a b out ia ib
   let a_ k <-cO true (<-elem' a ia) b ib (b.size-ib) 0|return dZ a b out ia ib
   bcount:=k
   if k>0 then
    out:=out++b.extract ib (ib+k);ib:=ib+k
    if ib == b.size then return dZ a b out ia ib
   out:=out.push (<-elem' a ia);ia:=ia+1
   if ia+1 == a.size then return iX a b out ia ib
   if acount<7&&bcount<7 then break
  minGallop:=minGallop+1
  cU minGallop
 unsupported "internal:list.sort.merge-bound"):=rfl
structure Ask(M:Model)(A:t9)(E:f_ 0)(s:tw)(κ:kr)(pr:Nat->Keyed)(n:Nat)(lt:Nat->Nat->Bool):Prop where
 tr:∀i j k,i<n->j<n->k<n->lt j i=false->lt k j=false->lt k i=false
 as:∀i j,i<n->j<n->lt i j=true->lt j i=false
 run:∀(st:SortSt) i j,kindOf st=κ->i<n->j<n->∀Q:uf Bool->SortSt->Prop,Q (some (lt i j)) st->wpS M A E s (lt' (pr i) (pr j)) Q st
def arr(pr:Nat->Keyed)(l:ue Nat):Array Keyed:=(l.map pr).toArray
def eC(pr:Nat->Keyed)(l:ue Nat):(arr pr l).size=l.length:=by simp[arr]
def hU(pr:Nat->Keyed)(l:ue Nat)(i:Nat):(arr pr l).push (pr i)=arr pr (l++[i]):=by simp[arr]
def fH(pr:Nat->Keyed)(l m:ue Nat):arr pr l++arr pr m=arr pr (l++m):=by simp[arr]
def dU(pr:Nat->Keyed)(l:ue Nat)(i j:Nat):(arr pr l).extract i j=arr pr ((l.drop i).take (j-i)):=by unfold arr;rw[List.extract_toArray,List.map_take,List.map_drop]
def aW{M:Model}{A:t9}{E:f_ 0}{s:tw}{pr:Nat->Keyed}{l:ue Nat}{i:Nat}{st:SortSt}{Q:Keyed->SortSt->Prop}(hi:i<l.length)(h:Q (pr (l.getD i 0)) st):wpS M A E s (elem' (arr pr l) i) Q st:=by
 rw[elem'_eq];have e:(arr pr l)[i]?=a_ (pr (l.getD i 0)):=by simp[arr,hi]
 rw[e];exact cj h
structure MI(lt:Nat->Nat->Bool)(la lb lo:ue Nat)(ia ib:Nat):Prop where
 perm:(lo++(la.drop ia++lb.drop ib)).Perm (la++lb)
 srt:lo.Pairwise λi j=>lt j i=false
 low:∀o∈lo,∀x∈la.drop ia++lb.drop ib,lt x o=false
structure Two(lt:Nat->Nat->Bool)(n:Nat)(la lb:ue Nat):Prop where
 sa:la.Pairwise λi j=>lt j i=false
 sb:lb.Pairwise λi j=>lt j i=false
 na:∀x∈la,x<n
 nb:∀x∈lb,x<n
def Mgd(pr:Nat->Keyed)(lt:Nat->Nat->Bool)(la lb:ue Nat)(out:Array Keyed):Prop:=∃lo:ue Nat,out=arr pr lo/\lo.Perm (la++lb)/\lo.Pairwise λi j=>lt j i=false
section
variable{lt:Nat->Nat->Bool}{n:Nat}{la lb lo:ue Nat}{ia ib:Nat}
def fD{R:Nat->Nat->Prop}{l:ue Nat}(h:l.Pairwise R)(k:Nat):(l.drop k).Pairwise R:=h.sublist (List.drop_sublist k l)
def DH{R:Nat->Nat->Prop}{l:ue Nat}(h:l.Pairwise R)(i k:Nat):∀x∈(l.drop i).take k,∀y∈l.drop (i+k),R x y:=λx hx y hy=>by have hd:=fD h i;rw[<-b8 k (l.drop i)]at hd;rw[<-List.drop_drop]at hy;exact(bg.mp hd).2.2 x hx y hy
def lZ(l:ue Nat)(i k:Nat):l.drop i=(l.drop i).take k++l.drop (i+k):=by rw[<-List.drop_drop,b8]
theorem MI.pushA(m:MI lt la lb lo ia ib)(t:Two lt n la lb)(h:∀x∈(la.drop ia).take k,∀y∈lb.drop ib,lt y x=false):MI lt la lb (lo++(la.drop ia).take k) (ia+k) ib:=by
 have sub:∀x∈(la.drop ia).take k,x∈la.drop ia:=λx hx=>cz hx;have sub2:∀x∈la.drop (ia+k),x∈la.drop ia:=λx hx=>by rw[lZ la ia k];exact ah _ hx
 refine⟨?_,?_,?_⟩
 ·refine kj ?_ m.perm;rw[ak];refine du _ ?_;rw[<-ak,<-lZ]
 ·rw[bg];exact⟨m.srt,(fD t.sa ia).sublist (List.take_sublist k _),λo ho x hx=>m.low o ho x (b0 _ (sub x hx))⟩
 ·intro o ho x hx;rcases ai.mp ho with q|q
  ·refine m.low o q x ?_;rcases ai.mp hx with z|z
   ·exact b0 _ (sub2 x z)
   ·exact ah _ z
  ·rcases ai.mp hx with z|z
   ·exact DH t.sa ia k o q x z
   ·exact h o q x z
theorem MI.pushB(m:MI lt la lb lo ia ib)(t:Two lt n la lb)(h:∀x∈(lb.drop ib).take k,∀y∈la.drop ia,lt y x=false):MI lt la lb (lo++(lb.drop ib).take k) ia (ib+k):=by
 have sub:∀x∈(lb.drop ib).take k,x∈lb.drop ib:=λx hx=>cz hx;have sub2:∀x∈lb.drop (ib+k),x∈lb.drop ib:=λx hx=>by rw[lZ lb ib k];exact ah _ hx
 refine⟨?_,?_,?_⟩
 ·refine kj ?_ m.perm;rw[ak];refine du _ ?_;refine(List.perm_append_comm_assoc _ _ _).trans ?_;rw[<-lZ]
 ·rw[bg];exact⟨m.srt,(fD t.sb ib).sublist (List.take_sublist k _),λo ho x hx=>m.low o ho x (ah _ (sub x hx))⟩
 ·intro o ho x hx;rcases ai.mp ho with q|q
  ·refine m.low o q x ?_;rcases ai.mp hx with z|z
   ·exact b0 _ z
   ·exact ah _ (sub2 x z)
  ·rcases ai.mp hx with z|z
   ·exact h o q x z
   ·exact DH t.sb ib k o q x z
def dF{l:ue Nat}(h:i<l.length):(l.drop i).take 1=[l.getD i 0]:=by rw[d7 h,List.take_succ_cons,qv,av,c8 h];rfl
theorem MI.done{pr:Nat->Keyed}(m:MI lt la lb lo ia ib)(t:Two lt n la lb)(h:ia=la.length\/ib=lb.length):Mgd pr lt la lb (dZ (arr pr la) (arr pr lb) (arr pr lo) ia ib):=by
 refine⟨lo++la.drop ia++lb.drop ib,?_,by rw[ak];exact m.perm,?_⟩
 ·unfold dZ;rw[dU,dU,fH,fH,eC,eC,fi (by rw[dv];omega),fi (by rw[dv];omega)]
 ·rw[ak,bg];refine⟨m.srt,?_,m.low⟩;rw[bg];refine⟨fD t.sa _,fD t.sb _,λx hx y hy=>?_⟩;rcases h with h|h
  ·rw[h]at hx;simp at hx
  ·rw[h]at hy;simp at hy
theorem MI.last{pr:Nat->Keyed}(m:MI lt la lb lo ia ib)(t:Two lt n la lb)(h:ia+1=la.length)(top:∀x∈lb,lt (la.getD ia 0) x=false):Mgd pr lt la lb (iX (arr pr la) (arr pr lb) (arr pr lo) ia ib):=by
 have ed:la.drop ia=[la.getD ia 0]:=by rw[<-dF ⋯,fi (by rw[dv];omega)]
 refine⟨lo++lb.drop ib++la.drop ia,?_,?_,?_⟩
 ·unfold iX;rw[dU,dU,fH,fH,eC,eC,fi (by rw[dv];omega),fi (by rw[dv];omega)]
 ·refine kj ?_ m.perm;rw[ak];exact du _ qf
 ·rw[ak,bg];refine⟨m.srt,?_,λo ho x hx=>m.low o ho x (by rcases ai.mp hx with z|z;exact ah _ z;exact b0 _ z)⟩;rw[bg];refine⟨fD t.sb _,fD t.sa _,λx hx y hy=>?_⟩;rw[ed]at hy;simp at hy;rw[hy];have:=top x (d4 hx);simpa using this
end
section
variable{M:Model}{A:t9}{E:f_ 0}{s:tw}{κ:kr}{pr:Nat->Keyed}{n:Nat}{lt:Nat->Nat->Bool}
def Sg(st st':SortSt):Prop:=kindOf st'=kindOf st/\arrOf st'=arrOf st/\d8 st'=d8 st/\m4 st'=m4 st
theorem Sg.refl(st:SortSt):Sg st st:=⟨rfl,rfl,rfl,rfl⟩
def mD{g:Nat}{st:SortSt}{Q:Unit->SortSt->Prop}(h:Q () (tV g st)):wpS M A E s (cU g) Q st:=wpS_modify h
def kI{x:String}{st:SortSt}{Q:Unit->SortSt->Prop}(h:Q () st):wpS M A E s (liftM (rule x):StateT SortSt Sem Unit) Q st:=wpS_lift (mq ⟨rfl,h⟩)
def Jn(O:Ask M A E s κ pr n lt){l:ue Nat}(sl:l.Pairwise λi j=>lt j i=false)(nl:∀x∈l,x<n){y i:Nat}(hy:y<n)(hi:i<l.length){st:SortSt}(hk:kindOf st=κ){Q:uf Nat->SortSt->Prop}
  (k:∀r,i+r<=l.length->(∀x∈(l.drop i).take r,lt y x=false)->(∀x∈l.drop (i+r),lt y x=true)->Q (a_ r) st):wpS M A E s (cO false (pr y) (arr pr l) i (l.length-i) 0) Q st:=by
 have at':∀j,j<l.length->l.getD j 0∈l:=λj hj=>by
  have:l.getD j 0=l[j]:=by simp[hj]
  rw[this];exact de hj
 refine iW (bey:=λj=>!lt y (l.getD (i+j) 0)) (λj hj Q' hq=>?_) (λa b h1 h2 h3=>?_) ⋯ (λr h1 h2 h3=>k r ⋯ (λx hx=>?_) (λx hx=>?_))
 ·unfold fS;refine bw (aW ⋯ ?_);rw[if_neg nofun];refine bw (O.run st _ _ hk hy (nl _ (at' _ ⋯)) _ ?_);exact cj hq
 ·rw[k6]at h3⊢;by_cases e:a=b
  ·subst e;exact h3
  ·have q:=dq.mp sl (i+a) (i+b) ⋯ ⋯ ⋯;have e1:l.getD (i+a) 0=l[i+a]:=by simp[show i+a<l.length by omega]
   have e2:l.getD (i+b) 0=l[i+b]:=by simp[show i+b<l.length by omega]
   rw[e2]at h3;rw[e1];exact O.tr _ _ _ (nl _ (de _)) (nl _ (de _)) hy q h3
 ·let⟨j,hj,rfl⟩:=fj hx;rw[cf,dv]at hj;have:=h2 j ⋯;rw[k6]at this;rw[gz,jl];simpa[show i+j<l.length by omega] using this
 ·let⟨j,hj,rfl⟩:=fj hx;rw[dv]at hj;have:=h3 (r+j) ⋯ ⋯;rw[Bool.not_eq_false']at this;rw[jl];have e:i+(r+j)=i+r+j:=⋯
  rw[e]at this;simpa[show i+r+j<l.length by omega] using this
def DI(O:Ask M A E s κ pr n lt){l:ue Nat}(sl:l.Pairwise λi j=>lt j i=false)(nl:∀x∈l,x<n){y i c:Nat}(hy:y<n)(hc:i+c<=l.length){hint:Nat}(hi:hint<c){st:SortSt}(hk:kindOf st=κ){Q:uf Nat->SortSt->Prop}
  (k:∀r,r<=c->(∀x∈(l.drop i).take r,lt x y=true)->(∀j,r<=j->j<c->lt (l.getD (i+j) 0) y=false)->Q (a_ r) st):wpS M A E s (cO true (pr y) (arr pr l) i c hint) Q st:=by
 have at':∀j,j<l.length->l.getD j 0∈l:=λj hj=>by
  have:l.getD j 0=l[j]:=by simp[hj]
  rw[this];exact de hj
 refine iW (bey:=λj=>lt (l.getD (i+j) 0) y) (λj hj Q' hq=>?_) (λa b h1 h2 h3=>?_) hi (λr h1 h2 h3=>k r h1 (λx hx=>?_) h3)
 ·unfold fS;refine bw (aW ⋯ ?_);rw[if_pos rfl];exact O.run st _ _ hk (nl _ (at' _ ⋯)) hy _ hq
 ·by_cases e:a=b
  ·subst e;exact h3
  ·have q:=dq.mp sl (i+a) (i+b) ⋯ ⋯ ⋯;have e1:l.getD (i+a) 0=l[i+a]:=by simp[show i+a<l.length by omega]
   have e2:l.getD (i+b) 0=l[i+b]:=by simp[show i+b<l.length by omega]
   show lt (l.getD (i+a) 0) y=true
   have h3:lt (l.getD (i+b) 0) y=true:=h3;rw[e2]at h3;rw[e1];cases z:lt l[i+a] y with
   |true=>rfl
   |false=>have:=O.tr y _ _ hy (nl _ (de _)) (nl _ (de _)) z q;rw[this]at h3;cases h3
 ·let⟨j,hj,rfl⟩:=fj hx;rw[cf,dv]at hj;have:lt (l.getD (i+j) 0) y=true:=h2 j ⋯;rw[gz,jl];simpa[show i+j<l.length by omega] using this
end
def OW(a b:Array Keyed)(na nb g ac bc ia:Nat)(out:Array Keyed)(ib:Nat):StateT SortSt Sem (ForInStep (uf (Array Keyed)×Array Keyed×Nat×Nat×Nat×Nat×Nat)):=do
 let z <-elem' a ia
 if ia+1+1 == na then pure (.done (a_ (iX a b (out.push z) (ia+1) ib),out.push z,ia+1,ib,g,ac,bc))
 else if ac<7&&bc<7 then pure (.done (b_,out.push z,ia+1,ib,g,ac,bc))
 else pure (.yield (b_,out.push z,ia+1,ib,g,ac,bc))
def OX(a b:Array Keyed)(na nb g ac bc ib:Nat)(out:Array Keyed)(ia:Nat):StateT SortSt Sem (ForInStep (uf (Array Keyed)×Array Keyed×Nat×Nat×Nat×Nat×Nat)):=do
 let z <-elem' b ib
 if ib+1 == nb then pure (.done (a_ (dZ a b (out.push z) ia (ib+1)),out.push z,ia,ib+1,g,ac,bc))
 else
  let a_ k <-cO true (<-elem' a ia) b (ib+1) (nb-(ib+1)) 0|pure (.done (a_ (dZ a b (out.push z) ia (ib+1)),out.push z,ia,ib+1,g,ac,bc))
  if k>0 then
   if ib+1+k == nb then pure (.done (a_ (dZ a b (out.push z++b.extract (ib+1) (ib+1+k)) ia (ib+1+k)),out.push z++b.extract (ib+1) (ib+1+k),ia,ib+1+k,g,ac,k))
   else OW a b na nb g ac k ia (out.push z++b.extract (ib+1) (ib+1+k)) (ib+1+k)
  else OW a b na nb g ac k ia (out.push z) (ib+1)
def OY(a b:Array Keyed)(na nb:Nat)(out:Array Keyed)(ia ib ac bc g:Nat):StateT SortSt Sem (ForInStep (uf (Array Keyed)×Array Keyed×Nat×Nat×Nat×Nat×Nat)):=do
 cU g
 let a_ k <-cO false (<-elem' b ib) a ia (na-ia) 0|pure (.done (a_ (dZ a b out ia ib),out,ia,ib,g,ac,bc))
 if k>0 then
  if ia+k+1 == na then pure (.done (a_ (iX a b (out++a.extract ia (ia+k)) (ia+k) ib),out++a.extract ia (ia+k),ia+k,ib,g,k,bc))
  else if ia+k == na then pure (.done (a_ (dZ a b (out++a.extract ia (ia+k)) (ia+k) ib),out++a.extract ia (ia+k),ia+k,ib,g,k,bc))
  else OX a b na nb g k bc ib (out++a.extract ia (ia+k)) (ia+k)
 else OX a b na nb g k bc ib out ia
def Vj(a b:Array Keyed)(na nb g:Nat)(c:uf (Array Keyed)×Array Keyed×Nat×Nat×Nat×Nat):StateT SortSt Sem (ForInStep (uf (Array Keyed)×Array Keyed×Nat×Nat×Nat×Nat)):=do
 let a_ w <-lt' (<-elem' b c.2.2.2.1) (<-elem' a c.2.2.1)|pure (.done (a_ (dZ a b c.2.1 c.2.2.1 c.2.2.2.1),c.2))
 if w then
  let z <-elem' b c.2.2.2.1
  if c.2.2.2.1+1 == nb then pure (.done (a_ (dZ a b (c.2.1.push z) c.2.2.1 (c.2.2.2.1+1)),c.2.1.push z,c.2.2.1,c.2.2.2.1+1,0,c.2.2.2.2.2+1))
  else if c.2.2.2.2.2+1 >= g then pure (.done (b_,c.2.1.push z,c.2.2.1,c.2.2.2.1+1,0,c.2.2.2.2.2+1))
  else pure (.yield (b_,c.2.1.push z,c.2.2.1,c.2.2.2.1+1,0,c.2.2.2.2.2+1))
 else
  let z <-elem' a c.2.2.1
  if c.2.2.1+1+1 == na then pure (.done (a_ (iX a b (c.2.1.push z) (c.2.2.1+1) c.2.2.2.1),c.2.1.push z,c.2.2.1+1,c.2.2.2.1,c.2.2.2.2.1+1,0))
  else if c.2.2.2.2.1+1 >= g then pure (.done (b_,c.2.1.push z,c.2.2.1+1,c.2.2.2.1,c.2.2.2.2.1+1,0))
  else pure (.yield (b_,c.2.1.push z,c.2.2.1+1,c.2.2.2.1,c.2.2.2.2.1+1,0))
def Vk(a b:Array Keyed)(na nb:Nat)(c:uf (Array Keyed)×Array Keyed×Nat×Nat×Nat×Nat×Nat):StateT SortSt Sem (ForInStep (uf (Array Keyed)×Array Keyed×Nat×Nat×Nat×Nat×Nat)):=if c.2.2.2.2.1>1 then OY a b na nb c.2.1 c.2.2.1 c.2.2.2.1 c.2.2.2.2.2.1 c.2.2.2.2.2.2 (c.2.2.2.2.1-1) else OY a b na nb c.2.1 c.2.2.1 c.2.2.2.1 c.2.2.2.2.2.1 c.2.2.2.2.2.2 c.2.2.2.2.1
def Ig(pr:Nat->Keyed)(lt:Nat->Nat->Bool)(la lb:ue Nat)(st:SortSt)(p:Nat)(c:uf (Array Keyed)×Array Keyed×Nat×Nat×Nat×Nat×Nat)(st':SortSt):Prop:=Sg st st'/\∃lo ia ib g ac bc,c=(b_,arr pr lo,ia,ib,g,ac,bc)/\MI lt la lb lo ia ib/\ia+1<la.length/\ib<lb.length/\p<=ia+ib
def Qg(pr:Nat->Keyed)(lt:Nat->Nat->Bool)(la lb:ue Nat)(st:SortSt)(p:Nat)(c:uf (Array Keyed)×Array Keyed×Nat×Nat×Nat×Nat×Nat)(st':SortSt):Prop:=(Sg st st'/\∃r d,c=(a_ r,d)/\Mgd pr lt la lb r)\/Ig pr lt la lb st p c st'
def Rg(pr:Nat->Keyed)(lt:Nat->Nat->Bool)(la lb:ue Nat)(st:SortSt)(p:Nat)(r:ForInStep (uf (Array Keyed)×Array Keyed×Nat×Nat×Nat×Nat×Nat))(st':SortSt):Prop:=match r with
 |.done c=>Qg pr lt la lb st p c st'
 |.yield c=>Ig pr lt la lb st p c st'
section
variable{M:Model}{A:t9}{E:f_ 0}{s:tw}{κ:kr}{pr:Nat->Keyed}{n:Nat}{lt:Nat->Nat->Bool}{la lb:ue Nat}
def cE{σ α:Type}{M:Model}{A:t9}{E:f_ 0}{s:tw}{c:Prop}[Decidable c]{x y:StateT σ Sem α}{Q:α->σ->Prop}{st:σ}(h1:c->wpS M A E s x Q st)(h2:¬ c->wpS M A E s y Q st):wpS M A E s (if c then x else y) Q st:=by
 split
 ·exact h1 ‹_›
 ·exact h2 ‹_›
def aY{l:ue Nat}{i:Nat}(h:i<l.length):l.getD i 0∈l:=by
 have:l.getD i 0=l[i]:=by simp[h]
 rw[this];exact de h
def rD(O:Ask M A E s κ pr n lt){l:ue Nat}(sl:l.Pairwise λi j=>lt j i=false)(nl:∀x∈l,x<n){x i:Nat}(hx:x<n)(hi:i<l.length)(h:lt (l.getD i 0) x=false):∀y∈l.drop i,lt y x=false:=λy hy=>by
 have hd:=fD sl i;rw[d7 hi]at hd hy;have e:l.getD i 0=l[i]:=by simp[hi]
 rw[e]at h;rcases bx.mp hy with rfl|q
 ·exact h
 ·exact O.tr _ _ _ hx (nl _ (de hi)) (nl _ (d4 q)) h ((f9.mp hd).1 y q)
theorem Two.pa(O:Ask M A E s κ pr n lt)(t:Two lt n la lb){lo:ue Nat}{ia ib:Nat}(m:MI lt la lb lo ia ib)(ha:ia<la.length)(hb:ib<lb.length)(e:lt (lb.getD ib 0) (la.getD ia 0)=false):MI lt la lb (lo++[la.getD ia 0]) (ia+1) ib:=by
 have:=m.pushA t (k:=1) λx hx=>by rw[dF ha]at hx;simp at hx;rw[hx];have:=rD O t.sb t.nb (t.na _ (aY ha)) hb e;simpa using this
 rwa[dF ha]at this
theorem Two.pb(O:Ask M A E s κ pr n lt)(t:Two lt n la lb){lo:ue Nat}{ia ib:Nat}(m:MI lt la lb lo ia ib)(ha:ia<la.length)(hb:ib<lb.length)(e:lt (lb.getD ib 0) (la.getD ia 0)=true):MI lt la lb (lo++[lb.getD ib 0]) ia (ib+1):=by
 have:=m.pushB t (k:=1) λx hx=>by rw[dF hb]at hx;simp at hx;rw[hx];have:=rD O t.sa t.na (t.nb _ (aY hb)) ha (O.as _ _ (t.nb _ (aY hb)) (t.na _ (aY ha)) e);simpa using this
 rwa[dF hb]at this
def DJ(O:Ask M A E s κ pr n lt)(t:Two lt n la lb)(top:∀x∈lb,lt (la.getD (la.length-1) 0) x=false){st st3:SortSt}(sg:Sg st st3){lo:ue Nat}{ia ib p:Nat}(m:MI lt la lb lo ia ib)(ha:ia+1<la.length)(hb:ib<lb.length)(h:∀y∈lb.drop ib,lt y (la.getD ia 0)=false)(pg:p<=ia+ib)(g ac bc:Nat):wpS M A E s (OW (arr pr la) (arr pr lb) la.length lb.length g ac bc ia (arr pr lo) ib) (Rg pr lt la lb st p) st3:=by
 unfold OW;refine bw (aW ⋯ ?_);have m':MI lt la lb (lo++[la.getD ia 0]) (ia+1) ib:=by
  have:=m.pushA t (k:=1) λx hx=>by rw[dF ⋯]at hx;simp at hx;rw[hx];simpa using h
  rwa[dF ⋯]at this
 rw[hU];refine cE (λc3=>?_) λc3=>?_
 ·rw[beq_iff_eq]at c3;refine cj (.inl ⟨sg,_,_,rfl,m'.last t c3 ?_⟩);have:ia+1=la.length-1:=⋯;rw[this];exact top
 rw[beq_iff_eq]at c3;refine cE (λc4=>?_) λc4=>?_
 ·exact cj (.inr ⟨sg,_,_,_,_,_,_,rfl,m',⋯,hb,⋯⟩)
 ·exact cj ⟨sg,_,_,_,_,_,_,rfl,m',⋯,hb,⋯⟩
def DK(O:Ask M A E s κ pr n lt)(t:Two lt n la lb)(top:∀x∈lb,lt (la.getD (la.length-1) 0) x=false){st st3:SortSt}(hk:kindOf st=κ)(sg:Sg st st3){lo:ue Nat}{ia ib p:Nat}(m:MI lt la lb lo ia ib)(ha:ia+1<la.length)(hb:ib<lb.length)(h:∀x∈la.drop ia,lt (lb.getD ib 0) x=true)(pg:p<=ia+ib)(g ac bc:Nat):wpS M A E s (OX (arr pr la) (arr pr lb) la.length lb.length g ac bc ib (arr pr lo) ia) (Rg pr lt la lb st p) st3:=by
 unfold OX;refine bw (aW hb ?_);have hm:la.getD ia 0∈la.drop ia:=by
  have e:la.getD ia 0=la[ia]:=by simp[show ia<la.length by omega]
  rw[e,d7 (show ia<la.length by omega)];exact aw
 have m':=t.pb O m ⋯ hb (h _ hm);rw[hU];refine cE (λc3=>?_) λc3=>?_
 ·rw[beq_iff_eq]at c3;exact cj (.inl ⟨sg,_,_,rfl,m'.done t (.inr c3)⟩)
 rw[beq_iff_eq]at c3;have hx:la.getD ia 0<n:=t.na _ (aY ⋯);refine bw (aW ⋯ (bw (DI O t.sb t.nb hx ⋯ ⋯ (sg.1.trans hk) λr a1 a2 a3=>?_)));dsimp only;have rest:∀y∈lb.drop (ib+1+r),lt y (la.getD ia 0)=false:=λy hy=>by let⟨j,hj,rfl⟩:=fj hy;rw[dv]at hj;have:=a3 (r+j) ⋯ ⋯;rw[show ib+1+(r+j)=ib+1+r+j by omega]at this;rw[jl];simpa[show ib+1+r+j<lb.length by omega] using this
 by_cases c5:r>0
 ·rw[if_pos c5,dU,fH,show ib+1+r-(ib+1)=r by omega];have m2:=m'.pushB t (k:=r) λx hx'=>by have hxn:=t.nb x (d4 (cz hx'));exact rD O t.sa t.na hxn ⋯ (O.as _ _ hxn hx (a2 x hx'))
  refine cE (λc6=>?_) λc6=>?_
  ·rw[beq_iff_eq]at c6;exact cj (.inl ⟨sg,_,_,rfl,m2.done t (.inr c6)⟩)
  rw[beq_iff_eq]at c6;exact DJ O t top sg m2 ha ⋯ rest ⋯ _ _ _
 ·rw[if_neg c5];obtain rfl:r=0:=⋯;exact DJ O t top sg m' ha ⋯ rest ⋯ _ _ _
def DL(O:Ask M A E s κ pr n lt)(t:Two lt n la lb)(top:∀x∈lb,lt (la.getD (la.length-1) 0) x=false){st st3:SortSt}(hk:kindOf st=κ)(sg:Sg st st3){lo:ue Nat}{ia ib p:Nat}(m:MI lt la lb lo ia ib)(ha:ia+1<la.length)(hb:ib<lb.length)(pg:p<=ia+ib)(ac bc g:Nat):wpS M A E s (OY (arr pr la) (arr pr lb) la.length lb.length (arr pr lo) ia ib ac bc g) (Rg pr lt la lb st p) st3:=by
 unfold OY;refine bw (mD (bw (aW hb (bw (Jn (i:=ia) (st:=tV g st3) O t.sa t.na (t.nb _ (aY hb)) ⋯ (sg.1.trans hk) λr a1 a2 a3=>?_)))));dsimp only;have sg':Sg st (tV g st3):=sg;by_cases c5:r>0
 ·rw[if_pos c5,dU,fH,show ia+r-ia=r by omega];have m':=m.pushA t (k:=r) λx hx=>rD O t.sb t.nb (t.na x (d4 (cz hx))) hb (a2 x hx);refine cE (λc6=>?_) λc6=>?_
  ·rw[beq_iff_eq]at c6;refine cj (.inl ⟨sg',_,_,rfl,m'.last t c6 ?_⟩);have:ia+r=la.length-1:=⋯;rw[this];exact top
  rw[beq_iff_eq]at c6;refine cE (λc7=>?_) λc7=>?_
  ·rw[beq_iff_eq]at c7;exact cj (.inl ⟨sg',_,_,rfl,m'.done t (.inl c7)⟩)
  rw[beq_iff_eq]at c7;exact DK O t top hk sg' m' ⋯ hb a3 ⋯ _ _ _
 ·rw[if_neg c5];obtain rfl:r=0:=⋯;exact DK O t top hk sg' m ha hb a3 pg _ _ _
theorem Lh(O:Ask M A E s κ pr n lt)(t:Two lt n la lb)(lst:∀{lo:ue Nat}{ia ib:Nat},MI lt la lb lo ia ib->ia+1=la.length->Mgd pr lt la lb (iX (arr pr la) (arr pr lb) (arr pr lo) ia ib)){st st3:SortSt}(hk:kindOf st=κ)(sg:Sg st st3){lo:ue Nat}{ia ib i j:Nat}(m:MI lt la lb lo ia ib)(ha:ia+1<la.length)(hb:ib<lb.length)(pg:i+1+j<=ia+ib)(ac bc g:Nat):
  wpS M A E s (Vj (arr pr la) (arr pr lb) la.length lb.length g (b_,arr pr lo,ia,ib,ac,bc)) (λr st'=>match r with
   |.done c=>Sg st st'/\((∃r d,c=(a_ r,d)/\Mgd pr lt la lb r)\/∃lo ia ib ac bc,c=(b_,arr pr lo,ia,ib,ac,bc)/\MI lt la lb lo ia ib/\ia+1<la.length/\ib<lb.length/\i+2<=ia+ib)
   |.yield c=>Sg st st'/\∃lo ia ib ac bc,c=(b_,arr pr lo,ia,ib,ac,bc)/\MI lt la lb lo ia ib/\ia+1<la.length/\ib<lb.length/\i+1+(j+1)<=ia+ib) st3:=by
 unfold Vj;dsimp only;refine bw (aW hb (bw (aW ⋯ (bw (O.run st3 _ _ (sg.1.trans hk) (t.nb _ (aY hb)) (t.na _ (aY ⋯)) _ ?_)))));dsimp only;cases e:lt (lb.getD ib 0) (la.getD ia 0) with
 |true=>
  rw[if_pos rfl];refine bw (aW hb ?_);have m':=t.pb O m ⋯ hb e;rw[hU];refine cE (λc3=>?_) λc3=>?_
  ·rw[beq_iff_eq]at c3;exact cj ⟨sg,.inl ⟨_,_,rfl,m'.done t (.inr c3)⟩⟩
  rw[beq_iff_eq]at c3;refine cE (λc4=>?_) λc4=>?_
  ·exact cj ⟨sg,.inr ⟨_,_,_,_,_,rfl,m',ha,⋯,⋯⟩⟩
  ·exact cj ⟨sg,_,_,_,_,_,rfl,m',ha,⋯,⋯⟩
 |false=>
  rw[if_neg nofun];refine bw (aW ⋯ ?_);have m':=t.pa O m ⋯ hb e;rw[hU];refine cE (λc3=>?_) λc3=>?_
  ·rw[beq_iff_eq]at c3;exact cj ⟨sg,.inl ⟨_,_,rfl,lst m' c3⟩⟩
  rw[beq_iff_eq]at c3;refine cE (λc4=>?_) λc4=>?_
  ·exact cj ⟨sg,.inr ⟨_,_,_,_,_,rfl,m',⋯,hb,⋯⟩⟩
  ·exact cj ⟨sg,_,_,_,_,_,rfl,m',⋯,hb,⋯⟩
def Li(O:Ask M A E s κ pr n lt)(t:Two lt n la lb)(top:∀x∈lb,lt (la.getD (la.length-1) 0) x=false){st st3:SortSt}(hk:kindOf st=κ){p:Nat}{c:uf (Array Keyed)×Array Keyed×Nat×Nat×Nat×Nat×Nat}(hi:Ig pr lt la lb st p c st3):wpS M A E s (Vk (arr pr la) (arr pr lb) la.length lb.length c) (Rg pr lt la lb st p) st3:=by let⟨sg,lo,ia,ib,g,ac,bc,rfl,m,ha,hb,pg⟩:=hi;unfold Vk;exact cE (λ_=>DL O t top hk sg m ha hb pg ac bc (g-1)) λ_=>DL O t top hk sg m ha hb pg ac bc g
def RI{β:Type}{tag:_}{l:ue Nat}{j t:Nat}{b1 b2:Bool}{r1 r2:Keyed->Array Keyed}{ini:Keyed->SortSt->β}{F:Nat->β->StateT SortSt Sem (ForInStep β)}{G:β->StateT SortSt Sem (Array Keyed)}{Q:Array Keyed->SortSt->Prop}{st:SortSt}(hj:j<l.length)(q1:b1=true->Q (r1 (pr (l.getD j 0))) st)(q2:b2=true->Q (r2 (pr (l.getD j 0))) st)
  (hF:¬ b1=true->¬ b2=true->wpS M A E s (forIn [0:t] (ini (pr (l.getD j 0)) st) F) (λc st'=>wpS M A E s (G c) Q st') st):
  wpS M A E s ((liftM (rule tag):StateT SortSt Sem Unit) >>= λ_=>elem' (arr pr l) j >>= λx=>if b1=true then pure (r1 x) else if b2=true then pure (r2 x) else get >>= λg=>forIn [0:t] (ini x g) F >>= G) Q st:=by
 refine bw (kI ?_);refine bw (aW hj ?_);refine cE (λc=>cj (q1 c)) λc1=>cE (λc=>cj (q2 c)) λc2=>bw (wpS_get (bw (hF c1 c2)))
def DM(O:Ask M A E s κ pr n lt)(t:Two lt n la lb)(h1:0<la.length)(h2:0<lb.length)(first:lt (lb.getD 0 0) (la.getD 0 0)=true)(top:∀x∈lb,lt (la.getD (la.length-1) 0) x=false){st:SortSt}(hk:kindOf st=κ){Q:Array Keyed->SortSt->Prop}
  (k:∀out st',Sg st st'->Mgd pr lt la lb out->Q out st'):wpS M A E s (xZ (arr pr la) (arr pr lb)) Q st:=by
 have m0:MI lt la lb [] 0 0:=⟨by simp,j9,λo ho=>by simp at ho⟩;have m1:=t.pb O m0 h1 h2 first
 have lst:∀{lo:ue Nat}{ia ib:Nat},MI lt la lb lo ia ib->ia+1=la.length->Mgd pr lt la lb (iX (arr pr la) (arr pr lb) (arr pr lo) ia ib):=λ{lo ia ib} m h=>m.last t h (by
  have:ia=la.length-1:=⋯;rw[this];exact top)
 rw[DG,eC,eC];refine RI (l:=lb) (j:=0) h2 (λc1=>k _ _ (Sg.refl _) (m1.done t (.inr (beq_iff_eq.mp c1)))) (λc2=>k _ _ (Sg.refl _) (lst m1 (beq_iff_eq.mp c2))) λc1 c2=>?_;rw[beq_iff_eq]at c1 c2;refine(md (iy (λi c st'=>Sg st st'/\∃lo ia ib g,c=(b_,arr pr lo,ia,ib,g)/\MI lt la lb lo ia ib/\ia+1<la.length/\ib<lb.length/\i+1<=ia+ib) (Q:=λc st'=>Sg st st'/\∃r d,c=(a_ r,d)/\Mgd pr lt la lb r) (λi c st' _ hi=>?_) (λc st'=>?_) ⟨Sg.refl _,[lb.getD 0 0],0,1,_,rfl,m1,⋯,⋯,⋯⟩) λc st' hq=>?_)
 ·rintro⟨sg,lo,ia,ib,g,rfl,m,ha,hb,pg⟩;dsimp only;refine bw (md (iy (λj c st''=>Sg st st''/\∃lo ia ib ac bc,c=(b_,arr pr lo,ia,ib,ac,bc)/\MI lt la lb lo ia ib/\ia+1<la.length/\ib<lb.length/\i+1+j<=ia+ib) (Q:=λc st''=>Sg st st''/\((∃r d,c=(a_ r,d)/\Mgd pr lt la lb r)\/∃lo ia ib ac bc,c=(b_,arr pr lo,ia,ib,ac,bc)/\MI lt la lb lo ia ib/\ia+1<la.length/\ib<lb.length/\i+2<=ia+ib)) (λj c st'' _ hj=>?_) (λc st''=>?_) ⟨sg,lo,ia,ib,0,0,rfl,m,ha,hb,⋯⟩) λc st'' hq=>?_)
  ·rintro⟨sg,lo,ia,ib,ac,bc,rfl,m,ha,hb,pg⟩;exact md (Lh O t lst hk sg m ha hb pg ac bc g) λr _ h=>by cases r <;> exact h
  ·rintro⟨sg,lo,ia,ib,ac,bc,rfl,m,ha,hb,pg⟩;exact⟨sg,.inr ⟨_,_,_,_,_,rfl,m,ha,hb,⋯⟩⟩
  ·obtain⟨sg,⟨r,d,rfl,mg⟩|⟨lo,ia,ib,ac,bc,rfl,m,ha,hb,pg⟩⟩:=hq
   ·exact cj ⟨sg,_,_,rfl,mg⟩
   dsimp only;refine bw (kI ?_);refine bw (md (iy (λj c st''=>Ig pr lt la lb st (i+2) c st'') (Q:=Qg pr lt la lb st (i+2)) (λj c st'' _ hj=>?_) (λc st'' h=>.inr h) ⟨sg,lo,ia,ib,_,ac,bc,rfl,m,ha,hb,pg⟩) λc st'' hq=>?_)
   ·exact λhi=>md (Li O t top hk hi) λr _ h=>by cases r <;> exact h
   ·rcases hq with⟨sg,r,d,rfl,mg⟩|⟨sg,lo,ia,ib,g,ac,bc,rfl,m,ha,hb,pg⟩
    ·exact cj ⟨sg,_,_,rfl,mg⟩
    ·dsimp only;exact bw (mD (cj ⟨sg,_,_,_,_,rfl,m,ha,hb,⋯⟩))
 ·rintro⟨sg,lo,ia,ib,g,rfl,m,ha,hb,pg⟩;omega
 ·let⟨sg,r,d,rfl,mg⟩:=hq;exact cj (k _ _ sg mg)
end
def yA:Array Keyed->Array Keyed->StateT SortSt Sem (Array Keyed):=sortPriv% PySem.Builtin.mergeHi
def eE(a b:Array Keyed)(out:Array Keyed)(na nb:Nat):=a.extract 0 na++b.extract 0 nb++out.reverse
def iM(a b:Array Keyed)(out:Array Keyed)(na nb:Nat):=b.extract 0 nb++a.extract 0 na++out.reverse
def DN(a b:Array Keyed):yA a b=(do
 rule "list.sort.merge-hi"
 let total:=a.size+b.size
 let mut na:=a.size-1
 let mut nb:=b.size
 let mut out:Array Keyed:=#[<-elem' a na]
 if na == 0 then return eE a b out na nb
 if nb == 1 then return iM a b out na nb
 let mut minGallop:=gallopOf (<-get)
 for _ in [0:total] do
  let mut acount:=0
  let mut bcount:=0
  for _ in [0:total] do
   let a_ aWins <-lt' (<-elem' b (nb-1)) (<-elem' a (na-1))|return eE a b out na nb
   if aWins then
    na:=na-1;out:=out.push (<-elem' a na);acount:=acount+1;bcount:=0
    if na == 0 then return eE a b out na nb
    if acount >= minGallop then break
   else
    nb:=nb-1;out:=out.push (<-elem' b nb);bcount:=bcount+1;acount:=0
    if nb == 1 then return iM a b out na nb
    if bcount >= minGallop then break
  rule "list.sort.gallop"
  minGallop:=minGallop+1
  for _ in [0:total] do
   if minGallop>1 then minGallop:=minGallop-1
   cU minGallop
   let a_ at_ <-cO false (<-elem' b (nb-1)) a 0 na (na-1)|return eE a b out na nb
   let k:=na-at_
   acount:=k
   if k>0 then
    out:=out++(a.extract at_ na).reverse;na:=at_
    if na == 0 then return eE a b out na nb
   nb:=nb-1;out:=out.push (<-elem' b nb)
   if nb == 1 then return iM a b out na nb
   let a_ at_ <-cO true (<-elem' a (na-1)) b 0 nb (nb-1)|return eE a b out na nb
   let k:=nb-at_
   bcount:=k
   if k>0 then
    out:=out++(b.extract at_ nb).reverse;nb:=at_
    if nb == 1 then return iM a b out na nb
    if nb == 0 then return eE a b out na nb
   na:=na-1;out:=out.push (<-elem' a na)
   if na == 0 then return eE a b out na nb
   if acount<7&&bcount<7 then break
  minGallop:=minGallop+1
  cU minGallop
 unsupported "internal:list.sort.merge-bound"):=rfl
abbrev D2:=uf (Array Keyed)×Nat×Nat×Array Keyed×Nat×Nat×Nat
def OZ(a b:Array Keyed)(g ac bc na nb:Nat)(out:Array Keyed):StateT SortSt Sem (ForInStep D2):=do
 let z <-elem' a (na-1)
 if na-1 == 0 then pure (.done (a_ (eE a b (out.push z) (na-1) nb),na-1,nb,out.push z,g,ac,bc))
 else if ac<7&&bc<7 then pure (.done (b_,na-1,nb,out.push z,g,ac,bc))
 else pure (.yield (b_,na-1,nb,out.push z,g,ac,bc))
def P3(a b:Array Keyed)(g ac bc nb na:Nat)(out:Array Keyed):StateT SortSt Sem (ForInStep D2):=do
 let z <-elem' b (nb-1)
 if nb-1 == 1 then pure (.done (a_ (iM a b (out.push z) na (nb-1)),na,nb-1,out.push z,g,ac,bc))
 else
  let a_ at_ <-cO true (<-elem' a (na-1)) b 0 (nb-1) (nb-1-1)|pure (.done (a_ (eE a b (out.push z) na (nb-1)),na,nb-1,out.push z,g,ac,bc))
  if nb-1-at_>0 then
   if at_ == 1 then pure (.done (a_ (iM a b (out.push z++(b.extract at_ (nb-1)).reverse) na at_),na,at_,out.push z++(b.extract at_ (nb-1)).reverse,g,ac,nb-1-at_))
   else if at_ == 0 then pure (.done (a_ (eE a b (out.push z++(b.extract at_ (nb-1)).reverse) na at_),na,at_,out.push z++(b.extract at_ (nb-1)).reverse,g,ac,nb-1-at_))
   else OZ a b g ac (nb-1-at_) na at_ (out.push z++(b.extract at_ (nb-1)).reverse)
  else OZ a b g ac (nb-1-at_) na (nb-1) (out.push z)
def P4(a b:Array Keyed)(out:Array Keyed)(na nb ac bc g:Nat):StateT SortSt Sem (ForInStep D2):=do
 cU g
 let a_ at_ <-cO false (<-elem' b (nb-1)) a 0 na (na-1)|pure (.done (a_ (eE a b out na nb),na,nb,out,g,ac,bc))
 if na-at_>0 then
  if at_ == 0 then pure (.done (a_ (eE a b (out++(a.extract at_ na).reverse) at_ nb),at_,nb,out++(a.extract at_ na).reverse,g,na-at_,bc))
  else P3 a b g (na-at_) bc nb at_ (out++(a.extract at_ na).reverse)
 else P3 a b g (na-at_) bc nb na out
def xD(pr:Nat->Keyed)(l:ue Nat):(arr pr l).reverse=arr pr l.reverse:=by simp[arr]
structure MH(lt:Nat->Nat->Bool)(la lb lo:ue Nat)(na nb:Nat):Prop where
 perm:(la.take na++(lb.take nb++lo)).Perm (la++lb)
 srt:lo.Pairwise λi j=>lt i j=false
 hi:∀o∈lo,∀x∈la.take na++lb.take nb,lt o x=false
section
variable{lt:Nat->Nat->Bool}{n:Nat}{la lb lo:ue Nat}{na nb k:Nat}
def fI{l:ue Nat}{i k:Nat}(h:i<=k):l.take k=l.take i++(l.take k).drop i:=by have:=b8 i (l.take k);rw[List.take_take,Nat.min_eq_left h]at this;exact this.symm
def fT{R:Nat->Nat->Prop}{l:ue Nat}(h:l.Pairwise R)(k:Nat):(l.take k).Pairwise R:=h.sublist (List.take_sublist k l)
def HN{R:Nat->Nat->Prop}{l:ue Nat}(h:l.Pairwise R){i k:Nat}(hi:i<=k):∀x∈(l.take k).drop i,∀y∈l.take i,R y x:=λx hx y hy=>by have ht:=fT h k;rw[fI hi]at ht;exact(bg.mp ht).2.2 y hy x hx
theorem MH.pushA(m:MH lt la lb lo na nb)(t:Two lt n la lb)(hk:k<=na)(h:∀x∈(la.take na).drop k,∀y∈lb.take nb,lt x y=false):MH lt la lb (lo++((la.take na).drop k).reverse) k nb:=by
 have sub:∀x∈(la.take na).drop k,x∈la.take na:=λx hx=>d4 hx;have sub2:∀x∈la.take k,x∈la.take na:=λx hx=>by rw[fI hk];exact b0 _ hx
 refine⟨?_,?_,?_⟩
 ·refine kj ?_ m.perm
  conv=>rhs;rw[fI (l:=la) hk,ak]
  refine du _ ?_;have p1:(lb.take nb++(lo++((la.take na).drop k).reverse)).Perm ((lb.take nb++lo)++(la.take na).drop k):=by rw[<-ak];exact du _ (i7 _)
  exact p1.trans qf
 ·rw[bg];refine⟨m.srt,?_,λo ho x hx=>m.hi o ho x (b0 _ (sub x (i5.mp hx)))⟩;rw[i3];exact(fT t.sa na).sublist (List.drop_sublist k _)
 ·intro o ho x hx;rcases ai.mp ho with q|q
  ·refine m.hi o q x ?_;rcases ai.mp hx with z|z
   ·exact b0 _ (sub2 x z)
   ·exact ah _ z
  ·have q:=i5.mp q;rcases ai.mp hx with z|z
   ·exact HN t.sa hk o q x z
   ·exact h o q x z
theorem MH.pushB(m:MH lt la lb lo na nb)(t:Two lt n la lb)(hk:k<=nb)(h:∀x∈(lb.take nb).drop k,∀y∈la.take na,lt x y=false):MH lt la lb (lo++((lb.take nb).drop k).reverse) na k:=by
 have sub:∀x∈(lb.take nb).drop k,x∈lb.take nb:=λx hx=>d4 hx;have sub2:∀x∈lb.take k,x∈lb.take nb:=λx hx=>by rw[fI hk];exact b0 _ hx
 refine⟨?_,?_,?_⟩
 ·refine kj (du _ ?_) m.perm;have p1:(lb.take k++(lo++((lb.take nb).drop k).reverse)).Perm (lb.take k++((lb.take nb).drop k++lo)):=by refine du _ ?_;exact(du _ (i7 _)).trans qf
  refine p1.trans ?_;rw[<-ak,<-fI hk]
 ·rw[bg];refine⟨m.srt,?_,λo ho x hx=>m.hi o ho x (ah _ (sub x (i5.mp hx)))⟩;rw[i3];exact(fT t.sb nb).sublist (List.drop_sublist k _)
 ·intro o ho x hx;rcases ai.mp ho with q|q
  ·refine m.hi o q x ?_;rcases ai.mp hx with z|z
   ·exact b0 _ z
   ·exact ah _ (sub2 x z)
  ·have q:=i5.mp q;rcases ai.mp hx with z|z
   ·exact h o q x z
   ·exact HN t.sb hk o q x z
def kJ{l:ue Nat}{i:Nat}(h0:0<i)(h:i<=l.length):(l.take i).drop (i-1)=[l.getD (i-1) 0]:=by
 have hl:(l.take i).length=i:=by rw[cf];omega
 rw[d7 ⋯,mf ⋯,gz,av,c8 (show i-1<l.length by omega)];rfl
theorem MH.done{pr:Nat->Keyed}(m:MH lt la lb lo na nb)(t:Two lt n la lb)(h:na=0\/nb=0):Mgd pr lt la lb (eE (arr pr la) (arr pr lb) (arr pr lo) na nb):=by
 refine⟨la.take na++lb.take nb++lo.reverse,?_,?_,?_⟩
 ·unfold eE;rw[dU,dU,xD,fH,fH,fq,fq,j0,j0]
 ·refine kj ?_ m.perm;rw[ak];exact du _ (du _ (i7 _))
 ·rw[bg];refine⟨?_,by rw[i3];exact m.srt,λx hx y hy=>m.hi y (i5.mp hy) x hx⟩;rw[bg];refine⟨fT t.sa _,fT t.sb _,λx hx y hy=>?_⟩;rcases h with h|h
  ·rw[h]at hx;simp at hx
  ·rw[h]at hy;simp at hy
theorem MH.first{pr:Nat->Keyed}(m:MH lt la lb lo na nb)(t:Two lt n la lb)(h:nb=1)(hb:0<lb.length)(low:∀x∈la,lt x (lb.getD 0 0)=false):Mgd pr lt la lb (iM (arr pr la) (arr pr lb) (arr pr lo) na nb):=by
 subst h;have ed:lb.take 1=[lb.getD 0 0]:=by
  have:=dF (l:=lb) (i:=0) hb
  rwa[fq]at this
 refine⟨lb.take 1++la.take na++lo.reverse,?_,?_,?_⟩
 ·unfold iM;rw[dU,dU,xD,fH,fH,fq,fq,j0,j0]
 ·refine kj ?_ m.perm;refine(du _ (i7 _)).trans ?_;rw[<-ak];exact j6 _ qf
 ·rw[bg];refine⟨?_,by rw[i3];exact m.srt,λx hx y hy=>m.hi y (i5.mp hy) x (by rcases ai.mp hx with z|z;exact ah _ z;exact b0 _ z)⟩;rw[bg];refine⟨fT t.sb _,fT t.sa _,λx hx y hy=>?_⟩;rw[ed]at hx;simp at hx;rw[hx];have:=low y (cz hy);simpa using this
end
section
variable{M:Model}{A:t9}{E:f_ 0}{s:tw}{κ:kr}{pr:Nat->Keyed}{n:Nat}{lt:Nat->Nat->Bool}{la lb:ue Nat}
def FP(O:Ask M A E s κ pr n lt){l:ue Nat}(sl:l.Pairwise λi j=>lt j i=false)(nl:∀x∈l,x<n){y c:Nat}(hy:y<n)(h0:0<c)(hc:c<=l.length){st:SortSt}(hk:kindOf st=κ){Q:uf Nat->SortSt->Prop}
  (k:∀r,r<=c->(0<r->lt y (l.getD (r-1) 0)=false)->(∀x∈(l.take c).drop r,lt y x=true)->Q (a_ r) st):wpS M A E s (cO false (pr y) (arr pr l) 0 c (c-1)) Q st:=by
 refine iW (bey:=λj=>!lt y (l.getD (0+j) 0)) (λj hj Q' hq=>?_) (λa b h1 h2 h3=>?_) ⋯ (λr h1 h2 h3=>k r h1 (λhr=>?_) (λx hx=>?_))
 ·unfold fS;refine bw (aW ⋯ ?_);rw[if_neg nofun];refine bw (O.run st _ _ hk hy (nl _ (aY ⋯)) _ ?_);exact cj hq
 ·rw[k6]at h3⊢;by_cases e:a=b
  ·subst e;exact h3
  ·have q:=dq.mp sl (0+a) (0+b) ⋯ ⋯ ⋯;have e1:l.getD (0+a) 0=l[0+a]:=by simp[show a<l.length by omega]
   have e2:l.getD (0+b) 0=l[0+b]:=by simp[show b<l.length by omega]
   rw[e2]at h3;rw[e1];exact O.tr _ _ _ (nl _ (de _)) (nl _ (de _)) hy q h3
 ·have:=h2 (r-1) ⋯;rw[k6,j1]at this;exact this
 ·let⟨j,hj,rfl⟩:=fj hx;rw[dv,cf]at hj;have:=h3 (r+j) ⋯ ⋯;rw[Bool.not_eq_false',j1]at this;rw[jl,gz];simpa[show r+j<l.length by omega] using this
def Jo(O:Ask M A E s κ pr n lt){l:ue Nat}(sl:l.Pairwise λi j=>lt j i=false)(nl:∀x∈l,x<n){y c:Nat}(hy:y<n)(h0:0<c)(hc:c<=l.length){st:SortSt}(hk:kindOf st=κ){Q:uf Nat->SortSt->Prop}
  (k:∀r,r<=c->(∀x∈l.take r,lt x y=true)->(∀x∈(l.take c).drop r,lt x y=false)->Q (a_ r) st):wpS M A E s (cO true (pr y) (arr pr l) 0 c (c-1)) Q st:=by
 refine DI O sl nl hy (i:=0) ⋯ ⋯ hk λr h1 h2 h3=>k r h1 (λx hx=>h2 x (by rw[fq];exact hx)) λx hx=>?_;let⟨j,hj,rfl⟩:=fj hx;rw[dv,cf]at hj;have:=h3 (r+j) ⋯ ⋯;rw[j1]at this;rw[jl,gz];simpa[show r+j<l.length by omega] using this
def rE(O:Ask M A E s κ pr n lt){l:ue Nat}(sl:l.Pairwise λi j=>lt j i=false)(nl:∀x∈l,x<n){x i:Nat}(hx:x<n)(h0:0<i)(hi:i<=l.length)(h:lt x (l.getD (i-1) 0)=false):∀y∈l.take i,lt x y=false:=λy hy=>by
 have e:l.getD (i-1) 0=l[i-1]:=by simp[show i-1<l.length by omega]
 let⟨j,hj,rfl⟩:=fj hy;rw[cf]at hj;rw[gz];rw[e]at h;by_cases z:j=i-1
 ·subst z;exact h
 ·have q:=dq.mp sl j (i-1) ⋯ ⋯ ⋯;exact O.tr _ _ _ (nl _ (de _)) (nl _ (de _)) hx q h
theorem Two.qa(O:Ask M A E s κ pr n lt)(t:Two lt n la lb){lo:ue Nat}{na nb:Nat}(m:MH lt la lb lo na nb)(ha:0<na)(ha':na<=la.length)(h:∀y∈lb.take nb,lt (la.getD (na-1) 0) y=false):MH lt la lb (lo++[la.getD (na-1) 0]) (na-1) nb:=by
 have:=m.pushA t (k:=na-1) ⋯ λx hx=>by rw[kJ ha ha']at hx;simp at hx;rw[hx];simpa using h
 rwa[kJ ha ha',List.reverse_singleton]at this
theorem Two.qb(O:Ask M A E s κ pr n lt)(t:Two lt n la lb){lo:ue Nat}{na nb:Nat}(m:MH lt la lb lo na nb)(hb:0<nb)(hb':nb<=lb.length)(h:∀y∈la.take na,lt (lb.getD (nb-1) 0) y=false):MH lt la lb (lo++[lb.getD (nb-1) 0]) na (nb-1):=by
 have:=m.pushB t (k:=nb-1) ⋯ λx hx=>by rw[kJ hb hb']at hx;simp at hx;rw[hx];simpa using h
 rwa[kJ hb hb',List.reverse_singleton]at this
def Vl(a b:Array Keyed)(g:Nat)(c:uf (Array Keyed)×Nat×Nat×Array Keyed×Nat×Nat):StateT SortSt Sem (ForInStep (uf (Array Keyed)×Nat×Nat×Array Keyed×Nat×Nat)):=do
 let a_ w <-lt' (<-elem' b (c.2.2.1-1)) (<-elem' a (c.2.1-1))|pure (.done (a_ (eE a b c.2.2.2.1 c.2.1 c.2.2.1),c.2))
 if w then
  let z <-elem' a (c.2.1-1)
  if c.2.1-1 == 0 then pure (.done (a_ (eE a b (c.2.2.2.1.push z) (c.2.1-1) c.2.2.1),c.2.1-1,c.2.2.1,c.2.2.2.1.push z,c.2.2.2.2.1+1,0))
  else if c.2.2.2.2.1+1 >= g then pure (.done (b_,c.2.1-1,c.2.2.1,c.2.2.2.1.push z,c.2.2.2.2.1+1,0))
  else pure (.yield (b_,c.2.1-1,c.2.2.1,c.2.2.2.1.push z,c.2.2.2.2.1+1,0))
 else
  let z <-elem' b (c.2.2.1-1)
  if c.2.2.1-1 == 1 then pure (.done (a_ (iM a b (c.2.2.2.1.push z) c.2.1 (c.2.2.1-1)),c.2.1,c.2.2.1-1,c.2.2.2.1.push z,0,c.2.2.2.2.2+1))
  else if c.2.2.2.2.2+1 >= g then pure (.done (b_,c.2.1,c.2.2.1-1,c.2.2.2.1.push z,0,c.2.2.2.2.2+1))
  else pure (.yield (b_,c.2.1,c.2.2.1-1,c.2.2.2.1.push z,0,c.2.2.2.2.2+1))
def Vm(a b:Array Keyed)(c:D2):StateT SortSt Sem (ForInStep D2):=if c.2.2.2.2.1>1 then P4 a b c.2.2.2.1 c.2.1 c.2.2.1 c.2.2.2.2.2.1 c.2.2.2.2.2.2 (c.2.2.2.2.1-1) else P4 a b c.2.2.2.1 c.2.1 c.2.2.1 c.2.2.2.2.2.1 c.2.2.2.2.2.2 c.2.2.2.2.1
def Ih(pr:Nat->Keyed)(lt:Nat->Nat->Bool)(la lb:ue Nat)(st:SortSt)(p:Nat)(c:D2)(st':SortSt):Prop:=Sg st st'/\∃lo na nb g ac bc,c=(b_,na,nb,arr pr lo,g,ac,bc)/\MH lt la lb lo na nb/\(0<na/\na<=la.length)/\(1<nb/\nb<=lb.length)/\p+(na+nb)<=la.length+lb.length
def Qh(pr:Nat->Keyed)(lt:Nat->Nat->Bool)(la lb:ue Nat)(st:SortSt)(p:Nat)(c:D2)(st':SortSt):Prop:=(Sg st st'/\∃r d,c=(a_ r,d)/\Mgd pr lt la lb r)\/Ih pr lt la lb st p c st'
def Rh(pr:Nat->Keyed)(lt:Nat->Nat->Bool)(la lb:ue Nat)(st:SortSt)(p:Nat)(r:ForInStep D2)(st':SortSt):Prop:=match r with
 |.done c=>Qh pr lt la lb st p c st'
 |.yield c=>Ih pr lt la lb st p c st'
def DO(O:Ask M A E s κ pr n lt)(t:Two lt n la lb){st st3:SortSt}(sg:Sg st st3){lo:ue Nat}{na nb p:Nat}(m:MH lt la lb lo na nb)(ha:0<na/\na<=la.length)(hb:1<nb/\nb<=lb.length)(h:∀y∈lb.take nb,lt (la.getD (na-1) 0) y=false)(pg:p+(na+nb)<=la.length+lb.length)(g ac bc:Nat):wpS M A E s (OZ (arr pr la) (arr pr lb) g ac bc na nb (arr pr lo)) (Rh pr lt la lb st p) st3:=by
 unfold OZ;refine bw (aW ⋯ ?_);have m':=t.qa O m ha.1 ha.2 h;rw[hU];refine cE (λc3=>?_) λc3=>?_
 ·rw[beq_iff_eq]at c3;exact cj (.inl ⟨sg,_,_,rfl,m'.done t (.inl c3)⟩)
 rw[beq_iff_eq]at c3;refine cE (λc4=>?_) λc4=>?_
 ·exact cj (.inr ⟨sg,_,_,_,_,_,_,rfl,m',⋯,hb,⋯⟩)
 ·exact cj ⟨sg,_,_,_,_,_,_,rfl,m',⋯,hb,⋯⟩
def DP(O:Ask M A E s κ pr n lt)(t:Two lt n la lb)(low:∀x∈la,lt x (lb.getD 0 0)=false){st st3:SortSt}(hk:kindOf st=κ)(sg:Sg st st3){lo:ue Nat}{na nb p:Nat}(m:MH lt la lb lo na nb)(ha:0<na/\na<=la.length)(hb:1<nb/\nb<=lb.length)(h:lt (lb.getD (nb-1) 0) (la.getD (na-1) 0)=false)(pg:p+(na+nb)<=la.length+lb.length)(g ac bc:Nat):wpS M A E s (P3 (arr pr la) (arr pr lb) g ac bc nb na (arr pr lo)) (Rh pr lt la lb st p) st3:=by
 unfold P3;refine bw (aW ⋯ ?_);have hy:lb.getD (nb-1) 0<n:=t.nb _ (aY ⋯);have m':=t.qb O m ⋯ hb.2 (rE O t.sa t.na hy ha.1 ha.2 h);rw[hU];refine cE (λc3=>?_) λc3=>?_
 ·rw[beq_iff_eq]at c3;exact cj (.inl ⟨sg,_,_,rfl,m'.first t c3 ⋯ low⟩)
 rw[beq_iff_eq]at c3;have hx:la.getD (na-1) 0<n:=t.na _ (aY ⋯);refine bw (aW ⋯ (bw (Jo O t.sb t.nb hx ⋯ ⋯ (sg.1.trans hk) λr a1 a2 a3=>?_)));dsimp only;have rest:∀y∈lb.take r,lt (la.getD (na-1) 0) y=false:=λy hy'=>O.as _ _ (t.nb y (cz hy')) hx (a2 y hy');by_cases c5:nb-1-r>0
 ·rw[if_pos c5,dU,xD,fH];have ed:(lb.drop r).take (nb-1-r)=(lb.take (nb-1)).drop r:=by rw[List.drop_take]
  rw[ed];have m2:=m'.pushB t (k:=r) ⋯ λx hx'=>by have hxn:=t.nb x (cz (d4 hx'));exact rE O t.sa t.na hxn ha.1 ha.2 (a3 x hx')
  refine cE (λc6=>?_) λc6=>?_
  ·rw[beq_iff_eq]at c6;exact cj (.inl ⟨sg,_,_,rfl,m2.first t c6 ⋯ low⟩)
  rw[beq_iff_eq]at c6;refine cE (λc7=>?_) λc7=>?_
  ·rw[beq_iff_eq]at c7;exact cj (.inl ⟨sg,_,_,rfl,m2.done t (.inr c7)⟩)
  rw[beq_iff_eq]at c7;exact DO O t sg m2 ha ⋯ rest ⋯ _ _ _
 ·rw[if_neg c5];obtain rfl:r=nb-1:=⋯;exact DO O t sg m' ha ⋯ rest ⋯ _ _ _
def DQ(O:Ask M A E s κ pr n lt)(t:Two lt n la lb)(low:∀x∈la,lt x (lb.getD 0 0)=false){st st3:SortSt}(hk:kindOf st=κ)(sg:Sg st st3){lo:ue Nat}{na nb p:Nat}(m:MH lt la lb lo na nb)(ha:0<na/\na<=la.length)(hb:1<nb/\nb<=lb.length)(pg:p+(na+nb)<=la.length+lb.length)(ac bc g:Nat):wpS M A E s (P4 (arr pr la) (arr pr lb) (arr pr lo) na nb ac bc g) (Rh pr lt la lb st p) st3:=by
 unfold P4;have hy:lb.getD (nb-1) 0<n:=t.nb _ (aY ⋯);have sg':Sg st (tV g st3):=sg;refine bw (mD (bw (aW ⋯ (bw (FP (st:=tV g st3) O t.sa t.na hy ha.1 ha.2 (sg.1.trans hk) λr a1 a2 a3=>?_)))));dsimp only;by_cases c5:na-r>0
 ·rw[if_pos c5,dU,xD,fH];have ed:(la.drop r).take (na-r)=(la.take na).drop r:=by rw[List.drop_take]
  rw[ed];have m':=m.pushA t (k:=r) ⋯ λx hx'=>by have hxn:=t.na x (cz (d4 hx'));exact rE O t.sb t.nb hxn ⋯ hb.2 (O.as _ _ hy hxn (a3 x hx'))
  refine cE (λc6=>?_) λc6=>?_
  ·rw[beq_iff_eq]at c6;exact cj (.inl ⟨sg',_,_,rfl,m'.done t (.inl c6)⟩)
  rw[beq_iff_eq]at c6;exact DP O t low hk sg' m' ⋯ hb (a2 ⋯) ⋯ _ _ _
 ·rw[if_neg c5];obtain rfl:r=na:=⋯;exact DP O t low hk sg' m ha hb (a2 ⋯) pg _ _ _
theorem Lj(O:Ask M A E s κ pr n lt)(t:Two lt n la lb)(h2:0<lb.length)(low:∀x∈la,lt x (lb.getD 0 0)=false){st st3:SortSt}(hk:kindOf st=κ)(sg:Sg st st3){lo:ue Nat}{na nb i j:Nat}(m:MH lt la lb lo na nb)(ha:0<na/\na<=la.length)(hb:1<nb/\nb<=lb.length)(pg:i+1+j+(na+nb)<=la.length+lb.length)(ac bc g:Nat):
  wpS M A E s (Vl (arr pr la) (arr pr lb) g (b_,na,nb,arr pr lo,ac,bc)) (λr st'=>match r with
   |.done c=>Sg st st'/\((∃r d,c=(a_ r,d)/\Mgd pr lt la lb r)\/∃lo na nb ac bc,c=(b_,na,nb,arr pr lo,ac,bc)/\MH lt la lb lo na nb/\(0<na/\na<=la.length)/\(1<nb/\nb<=lb.length)/\i+2+(na+nb)<=la.length+lb.length)
   |.yield c=>Sg st st'/\∃lo na nb ac bc,c=(b_,na,nb,arr pr lo,ac,bc)/\MH lt la lb lo na nb/\(0<na/\na<=la.length)/\(1<nb/\nb<=lb.length)/\i+1+(j+1)+(na+nb)<=la.length+lb.length) st3:=by
 unfold Vl;dsimp only;have hx:la.getD (na-1) 0<n:=t.na _ (aY ⋯);have hy:lb.getD (nb-1) 0<n:=t.nb _ (aY ⋯);refine bw (aW ⋯ (bw (aW ⋯ (bw (O.run st3 _ _ (sg.1.trans hk) hy hx _ ?_)))));dsimp only;cases e:lt (lb.getD (nb-1) 0) (la.getD (na-1) 0) with
 |true=>
  rw[if_pos rfl];refine bw (aW ⋯ ?_);have m':=t.qa O m ha.1 ha.2 (rE O t.sb t.nb hx ⋯ hb.2 (O.as _ _ hy hx e));rw[hU];refine cE (λc3=>?_) λc3=>?_
  ·rw[beq_iff_eq]at c3;exact cj ⟨sg,.inl ⟨_,_,rfl,m'.done t (.inl c3)⟩⟩
  rw[beq_iff_eq]at c3;refine cE (λc4=>?_) λc4=>?_
  ·exact cj ⟨sg,.inr ⟨_,_,_,_,_,rfl,m',⋯,hb,⋯⟩⟩
  ·exact cj ⟨sg,_,_,_,_,_,rfl,m',⋯,hb,⋯⟩
 |false=>
  rw[if_neg nofun];refine bw (aW ⋯ ?_);have m':=t.qb O m ⋯ hb.2 (rE O t.sa t.na hy ha.1 ha.2 e);rw[hU];refine cE (λc3=>?_) λc3=>?_
  ·rw[beq_iff_eq]at c3;exact cj ⟨sg,.inl ⟨_,_,rfl,m'.first t c3 h2 low⟩⟩
  rw[beq_iff_eq]at c3;refine cE (λc4=>?_) λc4=>?_
  ·exact cj ⟨sg,.inr ⟨_,_,_,_,_,rfl,m',ha,⋯,⋯⟩⟩
  ·exact cj ⟨sg,_,_,_,_,_,rfl,m',ha,⋯,⋯⟩
def Lk(O:Ask M A E s κ pr n lt)(t:Two lt n la lb)(low:∀x∈la,lt x (lb.getD 0 0)=false){st st3:SortSt}(hk:kindOf st=κ){p:Nat}{c:D2}(hi:Ih pr lt la lb st p c st3):wpS M A E s (Vm (arr pr la) (arr pr lb) c) (Rh pr lt la lb st p) st3:=by let⟨sg,lo,na,nb,g,ac,bc,rfl,m,ha,hb,pg⟩:=hi;unfold Vm;exact cE (λ_=>DQ O t low hk sg m ha hb pg ac bc (g-1)) λ_=>DQ O t low hk sg m ha hb pg ac bc g
def DR(O:Ask M A E s κ pr n lt)(t:Two lt n la lb)(h1:0<la.length)(h2:0<lb.length)(low:∀x∈la,lt x (lb.getD 0 0)=false)(top:∀x∈lb,lt (la.getD (la.length-1) 0) x=false){st:SortSt}(hk:kindOf st=κ){Q:Array Keyed->SortSt->Prop}
  (k:∀out st',Sg st st'->Mgd pr lt la lb out->Q out st'):wpS M A E s (yA (arr pr la) (arr pr lb)) Q st:=by
 have m0:MH lt la lb [] la.length lb.length:=⟨by simp,j9,λo ho=>by simp at ho⟩;have m1:=t.qa O m0 h1 (bq _) (λy hy=>top y (cz hy));rw[DN,eC,eC];refine RI (l:=la) (j:=la.length-1) ⋯ (λc1=>k _ _ (Sg.refl _) (m1.done t (.inl (beq_iff_eq.mp c1)))) (λc2=>k _ _ (Sg.refl _) (m1.first t (beq_iff_eq.mp c2) h2 low)) λc1 c2=>?_
 rw[beq_iff_eq]at c1 c2;refine(md (iy (λi c st'=>Sg st st'/\∃lo na nb g,c=(b_,na,nb,arr pr lo,g)/\MH lt la lb lo na nb/\(0<na/\na<=la.length)/\(1<nb/\nb<=lb.length)/\i+1+(na+nb)<=la.length+lb.length) (Q:=λc st'=>Sg st st'/\∃r d,c=(a_ r,d)/\Mgd pr lt la lb r) (λi c st' _ hi=>?_) (λc st'=>?_) ⟨Sg.refl _,[la.getD (la.length-1) 0],_,_,_,rfl,m1,⋯,⋯,⋯⟩) λc st' hq=>?_)
 ·rintro⟨sg,lo,na,nb,g,rfl,m,ha,hb,pg⟩;dsimp only;refine bw (md (iy (λj c st''=>Sg st st''/\∃lo na nb ac bc,c=(b_,na,nb,arr pr lo,ac,bc)/\MH lt la lb lo na nb/\(0<na/\na<=la.length)/\(1<nb/\nb<=lb.length)/\i+1+j+(na+nb)<=la.length+lb.length) (Q:=λc st''=>Sg st st''/\((∃r d,c=(a_ r,d)/\Mgd pr lt la lb r)\/∃lo na nb ac bc,c=(b_,na,nb,arr pr lo,ac,bc)/\MH lt la lb lo na nb/\(0<na/\na<=la.length)/\(1<nb/\nb<=lb.length)/\i+2+(na+nb)<=la.length+lb.length)) (λj c st'' _ hj=>?_) (λc st''=>?_) ⟨sg,lo,na,nb,0,0,rfl,m,ha,hb,⋯⟩) λc st'' hq=>?_)
  ·rintro⟨sg,lo,na,nb,ac,bc,rfl,m,ha,hb,pg⟩;exact md (Lj O t h2 low hk sg m ha hb pg ac bc g) λr _ h=>by cases r <;> exact h
  ·rintro⟨sg,lo,na,nb,ac,bc,rfl,m,ha,hb,pg⟩;exact⟨sg,.inr ⟨_,_,_,_,_,rfl,m,ha,hb,⋯⟩⟩
  ·obtain⟨sg,⟨r,d,rfl,mg⟩|⟨lo,na,nb,ac,bc,rfl,m,ha,hb,pg⟩⟩:=hq
   ·exact cj ⟨sg,_,_,rfl,mg⟩
   dsimp only;refine bw (kI ?_);refine bw (md (iy (λj c st''=>Ih pr lt la lb st (i+2) c st'') (Q:=Qh pr lt la lb st (i+2)) (λj c st'' _ hj=>?_) (λc st'' h=>.inr h) ⟨sg,lo,na,nb,_,ac,bc,rfl,m,ha,hb,pg⟩) λc st'' hq=>?_)
   ·exact λhi=>md (Lk O t low hk hi) λr _ h=>by cases r <;> exact h
   ·rcases hq with⟨sg,r,d,rfl,mg⟩|⟨sg,lo,na,nb,g,ac,bc,rfl,m,ha,hb,pg⟩
    ·exact cj ⟨sg,_,_,rfl,mg⟩
    ·dsimp only;exact bw (mD (cj ⟨sg,_,_,_,_,rfl,m,ha,hb,⋯⟩))
 ·rintro⟨sg,lo,na,nb,g,rfl,m,ha,hb,pg⟩;omega
 ·let⟨sg,r,d,rfl,mg⟩:=hq;exact cj (k _ _ sg mg)
end
def DS(i:Nat):mergeAt' i=(do
 let s <-get
 let (a_ (sa,na,power),a_ (sb,nb,_)):=((d8 s)[i]?,(d8 s)[i+1]?)|unsupported "internal:list.sort.pending"
 set (oa s (((d8 s).setIfInBounds i (sa,na+nb,power)).eraseIdxIfInBounds (i+1)))
 let a_ k <-cO false (<-elem' (arrOf s) sb) (arrOf s) sa na 0|return false
 let (sa,na):=(sa+k,na-k)
 if na == 0 then return true
 let a_ nb <-cO true (<-elem' (arrOf s) (sa+na-1)) (arrOf s) sb nb (nb-1)|return false
 if nb == 0 then return true
 let x:=(arrOf s).extract sa sb
 let y:=(arrOf s).extract sb (sb+nb)
 let merged <-if na<=nb then xZ x y else yA x y
 modify λs=>setArr s (merged.toList.zipIdx.foldl (λa(p,j)=>a.setIfInBounds (sa+j) p) (arrOf s))
 return(m4 (<-get)).isNone):=rfl
section
variable{M:Model}{A:t9}{E:f_ 0}{s:tw}{κ:kr}{pr:Nat->Keyed}{n:Nat}{lt:Nat->Nat->Bool}
def xE{X S Y:ue Nat}{j:Nat}(h:j<S.length):(X++(S++Y)).getD (X.length+j) 0=S.getD j 0:=by rw[av,au ⋯,ig,b9 h,av]
def FQ(O:Ask M A E s κ pr n lt){X S Y:ue Nat}(sl:S.Pairwise λi j=>lt j i=false)(nl:∀x∈S,x<n){y hint:Nat}(hy:y<n)(hh:hint<S.length){st:SortSt}(hk:kindOf st=κ){Q:uf Nat->SortSt->Prop}
  (k:∀r,r<=S.length->(∀x∈S.take r,lt y x=false)->(∀x∈S.drop r,lt y x=true)->Q (a_ r) st):wpS M A E s (cO false (pr y) (arr pr (X++(S++Y))) X.length S.length hint) Q st:=by
 refine iW (bey:=λj=>!lt y (S.getD j 0)) (λj hj Q' hq=>?_) (λa b h1 h2 h3=>?_) hh (λr h1 h2 h3=>k r h1 (λx hx=>?_) (λx hx=>?_))
 ·unfold fS;refine bw (aW (by rw[az,az];omega) ?_);rw[if_neg nofun,xE hj];refine bw (O.run st _ _ hk hy (nl _ (aY hj)) _ ?_);exact cj hq
 ·rw[k6]at h3⊢;by_cases e:a=b
  ·subst e;exact h3
  ·have q:=dq.mp sl a b ⋯ ⋯ ⋯;have e1:S.getD a 0=S[a]:=by simp[show a<S.length by omega]
   have e2:S.getD b 0=S[b]:=by simp[show b<S.length by omega]
   rw[e2]at h3;rw[e1];exact O.tr _ _ _ (nl _ (de _)) (nl _ (de _)) hy q h3
 ·let⟨j,hj,rfl⟩:=fj hx;rw[cf]at hj;have:=h2 j ⋯;rw[k6]at this;rw[gz];simpa[show j<S.length by omega] using this
 ·let⟨j,hj,rfl⟩:=fj hx;rw[dv]at hj;have:=h3 (r+j) ⋯ ⋯;rw[Bool.not_eq_false']at this;rw[jl];simpa[show r+j<S.length by omega] using this
def Jp(O:Ask M A E s κ pr n lt){X S Y P:ue Nat}{o:Nat}(hP:P=X++(S++Y))(ho:o=X.length)(sl:S.Pairwise λi j=>lt j i=false)(nl:∀x∈S,x<n){y hint:Nat}(hy:y<n)(hh:hint<S.length){st:SortSt}(hk:kindOf st=κ){Q:uf Nat->SortSt->Prop}
  (k:∀r,r<=S.length->(∀x∈S.take r,lt x y=true)->(∀x∈S.drop r,lt x y=false)->Q (a_ r) st):wpS M A E s (cO true (pr y) (arr pr P) o S.length hint) Q st:=by
 subst hP ho;refine iW (bey:=λj=>lt (S.getD j 0) y) (λj hj Q' hq=>?_) (λa b h1 h2 h3=>?_) hh (λr h1 h2 h3=>k r h1 (λx hx=>?_) (λx hx=>?_))
 ·unfold fS;refine bw (aW (by rw[az,az];omega) ?_);rw[if_pos rfl,xE hj];exact O.run st _ _ hk (nl _ (aY hj)) hy _ hq
 ·by_cases e:a=b
  ·subst e;exact h3
  ·have q:=dq.mp sl a b ⋯ ⋯ ⋯;have e1:S.getD a 0=S[a]:=by simp[show a<S.length by omega]
   have e2:S.getD b 0=S[b]:=by simp[show b<S.length by omega]
   show lt (S.getD a 0) y=true
   have h3:lt (S.getD b 0) y=true:=h3;rw[e2]at h3;rw[e1];cases z:lt S[a] y with
   |true=>rfl
   |false=>have:=O.tr y _ _ hy (nl _ (de _)) (nl _ (de _)) z q;rw[this]at h3;cases h3
 ·let⟨j,hj,rfl⟩:=fj hx;rw[cf]at hj;have:lt (S.getD j 0) y=true:=h2 j ⋯;rw[gz];simpa[show j<S.length by omega] using this
 ·let⟨j,hj,rfl⟩:=fj hx;rw[dv]at hj;have:lt (S.getD (r+j) 0) y=false:=h3 (r+j) ⋯ ⋯;rw[jl];simpa[show r+j<S.length by omega] using this
theorem Ll(pr:Nat->Keyed):∀(W X D Y:ue Nat),D.length=W.length->(W.map pr).zipIdx.foldl (λ(a:Array Keyed)(p:Keyed×Nat)=>a.setIfInBounds (X.length+p.2) p.1) (arr pr (X++(D++Y)))=arr pr (X++(W++Y))
 |W,X,D,Y,h=>by
  have gen:∀(W D:ue Nat)(X:ue Nat)(c:Nat)(o:Nat),D.length=W.length->X.length=o+c->((W.map pr).zipIdx c).foldl (λ(a:Array Keyed)(p:Keyed×Nat)=>a.setIfInBounds (o+p.2) p.1) (arr pr (X++(D++Y)))=arr pr (X++(W++Y)):=by
   intro W
   induction W with
   |nil=>intro D X c o h1 h2;simp at h1;subst h1;rfl
   |cons w W ih=>
    intro D X c o h1 h2;cases D with
    |nil=>simp at h1
    |cons d D=>
     rw[dn,List.zipIdx_cons,List.foldl_cons];have e:(arr pr (X++(d::D++Y))).setIfInBounds (o+c) (pr w)=arr pr ((X++[w])++(D++Y)):=by
      unfold arr;rw[List.setIfInBounds_toArray];congr 1;rw[<-h2,d9,List.set_append_right _ _ (by simp)];simp
     have e':(arr pr (X++(d::D++Y))).setIfInBounds (o+(pr w,c).2) (pr w,c).1=arr pr ((X++[w])++(D++Y)):=e;rw[e',ih D (X++[w]) (c+1) o (l_ h1) (by simp;omega)];simp
  exact gen W D X 0 X.length h rfl
def P5{st st':SortSt}{Q:PUnit->SortSt->Prop}(h:Q ⟨⟩ st'):wpS M A E s (set st':StateT SortSt Sem PUnit) Q st:=by unfold wpS;rw[StateT.run_set];exact af ⟨rfl,h⟩
def Srt(lt:Nat->Nat->Bool)(l:ue Nat):Prop:=l.Pairwise λi j=>lt j i=false
def HP{X U Z:ue Nat}{r c:Nat}(h:r+c<=U.length):((X++(U++Z)).drop (X.length+r)).take c=(U.drop r).take c:=by
 rw[List.drop_append,mf ⋯,jd,ig,List.drop_append,List.take_append];have e:c-(U.drop r).length=0:=by rw[dv];omega
 rw[e,qv,dz]
def DT(O:Ask M A E s κ pr n lt){X U V Y:ue Nat}(sU:Srt lt U)(sV:Srt lt V)(nU:∀x∈U,x<n)(nV:∀x∈V,x<n)(lU:0<U.length)(lV:0<V.length){st:SortSt}(hk:kindOf st=κ)(hf:m4 st=b_)(ha:arrOf st=arr pr (X++(U++(V++Y)))){i w w':Nat}(p1:(d8 st)[i]?=a_ (X.length,U.length,w))(p2:(d8 st)[i+1]?=a_ (X.length+U.length,V.length,w')){Q:Bool->SortSt->Prop}
  (k:∀W st',W.Perm (U++V)->Srt lt W->arrOf st'=arr pr (X++(W++Y))->d8 st'=((d8 st).setIfInBounds i (X.length,U.length+V.length,w)).eraseIdxIfInBounds (i+1)->kindOf st'=κ->m4 st'=b_->Q true st'):wpS M A E s (mergeAt' i) Q st:=by
 rw[DS]
 refine bw (wpS_get ?_)
 rw[p1,p2,ha]
 dsimp only
 refine bw (P5 ?_)
 have k1:kindOf (oa st (((d8 st).setIfInBounds i (X.length,U.length+V.length,w)).eraseIdxIfInBounds (i+1)))=κ:=hk
 have f1:m4 (oa st (((d8 st).setIfInBounds i (X.length,U.length+V.length,w)).eraseIdxIfInBounds (i+1)))=b_:=hf
 have q1:d8 (oa st (((d8 st).setIfInBounds i (X.length,U.length+V.length,w)).eraseIdxIfInBounds (i+1)))=((d8 st).setIfInBounds i (X.length,U.length+V.length,w)).eraseIdxIfInBounds (i+1):=rfl
 have a0:arrOf (oa st (((d8 st).setIfInBounds i (X.length,U.length+V.length,w)).eraseIdxIfInBounds (i+1)))=arr pr (X++(U++(V++Y))):=ha
 generalize oa st (((d8 st).setIfInBounds i (X.length,U.length+V.length,w)).eraseIdxIfInBounds (i+1))=st1 at k1 f1 q1 a0
 have v0:V.getD 0 0∈V:=aY lV
 have zU:U.getD (U.length-1) 0∈U:=aY ⋯
 have eV:(X++(U++(V++Y))).getD (X.length+U.length) 0=V.getD 0 0:=by
  have:=xE (X:=X++U) (S:=V) (Y:=Y) (j:=0) lV
  rwa[Nat.add_zero,az,ak]at this
 refine bw (aW (by simp;omega) ?_)
 rw[eV]
 refine bw (FQ O (S:=U) sU nU (nV _ v0) lU k1 λr a1 a2 a3=>?_)
 dsimp only
 have join:∀x∈U,lt (V.getD 0 0) x=false->∀y∈V,lt y x=false:=λx hx h=>by
  have:=rD O sV nV (i:=0) (nU x hx) lV h
  rwa[fq]at this
 by_cases c1:(U.length-r == 0)=true
 ·rw[if_pos c1]
  rw[beq_iff_eq]at c1
  refine cj (k (U++V) st1 (jr _) ?_ (by rw[a0,ak]) q1 k1 f1)
  unfold Srt
  rw[bg]
  refine⟨sU,sV,λx hx=>join x hx (a2 x ?_)⟩
  rw[fi ⋯]
  exact hx
 rw[if_neg c1]
 rw[beq_iff_eq]at c1
 have eZ:(X++(U++(V++Y))).getD (X.length+r+(U.length-r)-1) 0=U.getD (U.length-1) 0:=by
  rw[show X.length+r+(U.length-r)-1=X.length+(U.length-1) by omega]
  exact xE ⋯
 refine bw (aW (by simp;omega) ?_)
 rw[eZ]
 refine bw (Jp O (X:=X++U) (S:=V) (Y:=Y) (by rw[ak]) (by rw[az]) sV nV (nU _ zU) ⋯ k1 λnb b1 b2 b3=>?_)
 dsimp only
 have upz:∀x∈U,lt (U.getD (U.length-1) 0) x=false:=λx hx=>by
  let⟨j,hj,rfl⟩:=fj hx
  have e:U.getD (U.length-1) 0=U[U.length-1]:=by simp[show U.length-1<U.length by omega]
  rw[e]
  by_cases z:j=U.length-1
  ·subst z
   cases q:lt U[U.length-1] U[U.length-1] with
   |false=>rfl
   |true=>have:=O.as _ _ (nU _ (de _)) (nU _ (de _)) q;rw[q]at this;exact this
  ·exact dq.mp sU j (U.length-1) hj ⋯ ⋯
 by_cases c2:(nb == 0)=true
 ·rw[if_pos c2]
  rw[beq_iff_eq]at c2
  subst c2
  refine cj (k (U++V) st1 (jr _) ?_ (by rw[a0,ak]) q1 k1 f1)
  unfold Srt
  rw[bg]
  refine⟨sU,sV,λx hx y hy=>?_⟩
  exact O.tr _ _ _ (nU x hx) (nU _ zU) (nV y hy) (upz x hx) (b3 y (by rw[fq];exact hy))
 rw[if_neg c2]
 rw[beq_iff_eq]at c2
 have ex:(arr pr (X++(U++(V++Y)))).extract (X.length+r) (X.length+U.length)=arr pr (U.drop r):=by rw[dU,show X.length+U.length-(X.length+r)=U.length-r by omega,HP ⋯,fi (by rw[dv];omega)]
 have ey:(arr pr (X++(U++(V++Y)))).extract (X.length+U.length) (X.length+U.length+nb)=arr pr (V.take nb):=by
  have:=HP (X:=X++U) (U:=V) (Z:=Y) (r:=0) (c:=nb) ⋯
  rw[dU,ig]
  rw[ak,az,Nat.add_zero,fq]at this
  rw[this]
 rw[ex,ey]
 have t:Two lt n (U.drop r) (V.take nb):=⟨fD sU r,fT sV nb,λx hx=>nU x (d4 hx),λx hx=>nV x (cz hx)⟩
 have l1:0<(U.drop r).length:=by rw[dv];omega
 have l2:0<(V.take nb).length:=by rw[cf];omega
 have g1:(V.take nb).getD 0 0=V.getD 0 0:=by rw[av,List.getElem?_take,if_pos ⋯,av]
 have g2:(U.drop r).getD ((U.drop r).length-1) 0=U.getD (U.length-1) 0:=by
  rw[av,List.getElem?_drop,dv,av]
  congr 2
  omega
 have top:∀x∈V.take nb,lt ((U.drop r).getD ((U.drop r).length-1) 0) x=false:=λx hx=>by
  rw[g2]
  exact O.as _ _ (t.nb x hx) (nU _ zU) (b2 x hx)
 have low:∀x∈U.drop r,lt x ((V.take nb).getD 0 0)=false:=λx hx=>by
  rw[g1]
  exact O.as _ _ (nV _ v0) (t.na x hx) (a3 x hx)
 have first:lt ((V.take nb).getD 0 0) ((U.drop r).getD 0 0)=true:=by
  rw[g1]
  exact a3 _ (aY l1)
 have fin:∀out st2,Sg st1 st2->Mgd pr lt (U.drop r) (V.take nb) out->wpS M A E s (do
   modify λs=>setArr s (out.toList.zipIdx.foldl (λa(p,j)=>a.setIfInBounds (X.length+r+j) p) (arrOf s))
   return(m4 (<-get)).isNone) Q st2:=λout st2 sg mg=>by
  let⟨W0,rfl,pW,sW⟩:=mg
  refine bw (wpS_modify (bw (wpS_get ?_)))
  have eW:=Ll pr W0 (X++U.take r) (U.drop r++V.take nb) (V.drop nb++Y) pW.length_eq.symm
  have eP:(X++U.take r)++((U.drop r++V.take nb)++(V.drop nb++Y))=X++(U++(V++Y)):=by
   conv=>rhs;rw[<-b8 r U,<-b8 nb V]
   simp only[ak]
  have eL:(X++U.take r).length=X.length+r:=by rw[az,cf];omega
  rw[eP,eL]at eW
  have eA:arrOf st2=arr pr (X++(U++(V++Y))):=sg.2.1.trans a0
  have eT:(arr pr W0).toList=W0.map pr:=by simp[arr]
  have ef:m4 (setArr st2 ((arr pr W0).toList.zipIdx.foldl (λa(x:Keyed×Nat)=>a.setIfInBounds (X.length+r+x.2) x.1) (arrOf st2)))=b_:=sg.2.2.2.trans f1
  show wpS M A E s (pure (m4 (setArr st2 ((arr pr W0).toList.zipIdx.foldl (λa(x:Keyed×Nat)=>a.setIfInBounds (X.length+r+x.2) x.1) (arrOf st2)))).isNone) Q (setArr st2 ((arr pr W0).toList.zipIdx.foldl (λa(x:Keyed×Nat)=>a.setIfInBounds (X.length+r+x.2) x.1) (arrOf st2)))
  rw[ef]
  have pw:(U.take r++(W0++V.drop nb)).Perm (U++V):=by
   conv=>rhs;rw[<-b8 r U,<-b8 nb V,ak]
   refine du _ ?_
   rw[<-ak]
   exact j6 _ pW
  have memW:∀x∈W0,x∈U.drop r\/x∈V.take nb:=λx hx=>ai.mp (pW.mem_iff.mp hx)
  refine cj (k (U.take r++(W0++V.drop nb)) _ pw ?_ ?_ (sg.2.2.1.trans q1) (sg.1.trans k1) ef)
  ·unfold Srt
   have lowU:∀x∈U.take r,∀y∈U.drop r,lt y x=false:=λx hx y hy=>by
    have:=sU
    unfold Srt at this
    rw[<-b8 r U]at this
    exact(bg.mp this).2.2 x hx y hy
   have lowV:∀x∈V.take nb,∀y∈V.drop nb,lt y x=false:=λx hx y hy=>by
    have:=sV
    unfold Srt at this
    rw[<-b8 nb V]at this
    exact(bg.mp this).2.2 x hx y hy
   have UV:∀x∈U.take r,∀y∈V,lt y x=false:=λx hx=>join x (cz hx) (a2 x hx)
   rw[bg]
   refine⟨fT sU r,?_,λx hx y hy=>?_⟩
   ·rw[bg]
    refine⟨sW,fD sV nb,λx hx y hy=>?_⟩
    rcases memW x hx with q|q
    ·have hxU:=d4 q
     exact O.tr _ _ _ (nU x hxU) (nU _ zU) (nV y (d4 hy)) (upz x hxU) (b3 y hy)
    ·exact lowV x q y hy
   ·rcases ai.mp hy with q|q
    ·rcases memW y q with z|z
     ·exact lowU x hx y z
     ·exact UV x hx y (cz z)
    ·exact UV x hx y (d4 q)
  ·show(arr pr W0).toList.zipIdx.foldl (λa(x:Keyed×Nat)=>a.setIfInBounds (X.length+r+x.2) x.1) (arrOf st2)=_
   rw[eA,eT,eW]
   congr 1
   simp only[ak]
 by_cases c3:U.length-r<=nb
 ·rw[if_pos c3]
  exact bw (DM O t l1 l2 first top k1 fin)
 ·rw[if_neg c3]
  exact bw (DR O t l1 l2 low top k1 fin)
end
def Lm(lo nrem n:Nat):StateT SortSt Sem (uf Nat):=do
 let mut n:=n
 for _ in [n:nrem] do
  let a_ smaller <-ltAt' (lo+n) (lo+n-1)|return b_
  if smaller then break
  n:=n+1
 return a_ n
def Ln(lo nrem n:Nat):StateT SortSt Sem (uf Nat):=do
 reverseSlice' lo (lo+n)
 Lm lo nrem n
def FS(lo nrem n:Nat):StateT SortSt Sem (uf Nat):=do
 rule "list.sort.descending-run"
 let mut n:=n+1
 let mut neq:=0
 for _ in [n:nrem] do
  let a_ smaller <-ltAt' (lo+n) (lo+n-1)|return b_
  if smaller then
   if neq>0 then reverseSlice' (lo+n-(neq+1)) (lo+n)
   neq:=0
  else
   let a_ larger <-ltAt' (lo+n-1) (lo+n)|return b_
   if larger then break
   neq:=neq+1
  n:=n+1
 if neq>0 then reverseSlice' (lo+n-(neq+1)) (lo+n)
 Ln lo nrem n
def BZ(lo nrem:Nat):countRun' lo nrem=(do
 let mut n:=1
 for _ in [1:nrem] do
  let a_ smaller <-ltAt' (lo+n) (lo+n-1)|return b_
  if smaller then break
  n:=n+1
 if n == nrem then return a_ n
 if n>1 then
  let a_ rose <-ltAt' lo (lo+n-1)|return b_
  if rose then return a_ n
  reverseSlice' lo (lo+n)
 FS lo nrem n):=rfl
section
variable{M:Model}{A:t9}{E:f_ 0}{s:tw}{κ:kr}{pr:Nat->Keyed}{n:Nat}{lt:Nat->Nat->Bool}
def C0{X Z:ue Nat}(j:Nat):(X++Z).getD (X.length+j) 0=Z.getD j 0:=by rw[av,au ⋯,ig,av]
structure Tl(pr:Nat->Keyed)(κ:kr)(X Z:ue Nat)(pd:Array (Nat×Nat×Nat))(st:SortSt):Prop where
 a:arrOf st=arr pr (X++Z)
 k:kindOf st=κ
 p:d8 st=pd
 f:m4 st=none
def oV(O:Ask M A E s κ pr n lt){X Z:ue Nat}{pd:Array (Nat×Nat×Nat)}{st:SortSt}(T:Tl pr κ X Z pd st)(nZ:∀x∈Z,x<n){i j:Nat}(hi:i<Z.length)(hj:j<Z.length){Q:uf Bool->SortSt->Prop}(h:Q (a_ (lt (Z.getD i 0) (Z.getD j 0))) st):wpS M A E s (ltAt' (X.length+i) (X.length+j)) Q st:=by rw[ltAt'_eq];refine bw (wpS_get ?_);rw[T.a];refine bw (aW (by simp;omega) (bw (aW (by simp;omega) ?_)));rw[C0,C0];exact O.run st _ _ T.k (nZ _ (aY hi)) (nZ _ (aY hj)) _ h
def FT(pr:Nat->Keyed)(X B Y:ue Nat):mirror (arr pr (X++(B++Y))) X.length (X.length+B.length) ((X.length+B.length-X.length)/2)=arr pr (X++(B.reverse++Y)):=by
 apply Array.ext_getElem?;intro k;have g:∀(l:ue Nat)(k:Nat),(arr pr l)[k]?=(l[k]?).map pr:=λl k=>by simp[arr]
 rw[getElem?_mirror_all (by rw[eC];simp),g,g,g];split
 ·rename_i h;rw[au ⋯,b9 ⋯,au ⋯,b9 (by rw[jg];omega),List.getElem?_reverse ⋯];congr 2;omega
 ·rename_i h;by_cases c:k<X.length
  ·rw[b9 c,b9 c]
  ·rw[au ⋯,au ⋯,au ⋯,au (by rw[jg];omega),jg]
def C1{X Z B Y D:ue Nat}{pd:Array (Nat×Nat×Nat)}{st:SortSt}(T:Tl pr κ X Z pd st)(e:Z=D++(B++Y)){i j:Nat}(hi:i=X.length+D.length)(hj:j=X.length+D.length+B.length){Q:Unit->SortSt->Prop}(h:∀st',Tl pr κ X (D++(B.reverse++Y)) pd st'->Q () st'):wpS M A E s (reverseSlice' i j) Q st:=by
 rw[reverseSlice'_eq];refine wpS_modify (h _ ⟨?_,T.k,T.p,T.f⟩)
 show mirror (arrOf st) i j ((j-i)/2)=_
 have:=FT pr (X++D) B Y;rw[az,ak,ak]at this;rw[T.a,e,hi,hj,this]
def Dsc(lt:Nat->Nat->Bool)(l:ue Nat):Prop:=l.Pairwise λi j=>lt i j=false
theorem Dsc.rev{l:ue Nat}(h:Dsc lt l):Srt lt l.reverse:=by unfold Srt;rw[i3];exact h
theorem Srt.rev{l:ue Nat}(h:Srt lt l):Dsc lt l.reverse:=by unfold Dsc;rw[i3];exact h
def take_one{Z:ue Nat}{m:Nat}(h:m<Z.length):Z.take (m+1)=Z.take m++[Z.getD m 0]:=by rw[ka,av,c8 h];rfl
def AW{Z:ue Nat}{m:Nat}(h0:0<m)(h:m<=Z.length):∃l,Z.take m=l++[Z.getD (m-1) 0]:=⟨Z.take (m-1),by
 have:=take_one (Z:=Z) (m:=m-1) ⋯
 rwa[show m-1+1=m by omega]at this⟩
theorem Srt.more(O:Ask M A E s κ pr n lt){Z:ue Nat}(nZ:∀x∈Z,x<n){m:Nat}(h0:0<m)(hm:m<Z.length)(h:Srt lt (Z.take m))(e:lt (Z.getD m 0) (Z.getD (m-1) 0)=false):Srt lt (Z.take (m+1)):=by
 let⟨l,el⟩:=AW (Z:=Z) h0 ⋯;have n1:∀x∈Z.take m,x<n:=λx hx=>nZ x (cz hx);have ny:Z.getD m 0<n:=nZ _ (aY hm);rw[take_one hm];unfold Srt at h⊢;rw[bg];refine⟨h,by simp,λx hx y hy=>?_⟩;simp at hy;have hy:y=Z.getD m 0:=by simpa using hy
 rw[hy];have hx0:=n1 x hx;rw[el]at h hx n1;rcases ai.mp hx with q|q
 ·have:=(bg.mp h).2.2 x q (Z.getD (m-1) 0) (by simp);exact O.tr _ _ _ hx0 (n1 _ (by simp)) ny this e
 ·have q:x=Z.getD (m-1) 0:=by simpa using q
  rw[q];exact e
def Jq(O:Ask M A E s κ pr n lt){X Z:ue Nat}{pd:Array (Nat×Nat×Nat)}{st:SortSt}(T:Tl pr κ X Z pd st)(nZ:∀x∈Z,x<n){m:Nat}(h0:0<m)(hm:m<=Z.length)(hs:Srt lt (Z.take m)){Q:uf Nat->SortSt->Prop}
  (k:∀r,0<r->r<=Z.length->Srt lt (Z.take r)->Q (a_ r) st):wpS M A E s (Lm X.length Z.length m) Q st:=by
 unfold Lm;refine bw (md (iy (λi c st'=>st'=st/\c=(b_,i)/\Srt lt (Z.take i)) (Q:=λc st'=>st'=st/\∃r,c=(b_,r)/\0<r/\r<=Z.length/\Srt lt (Z.take r)) (λi c st' h1 h2=>?_) (λc st'=>?_) ⟨rfl,rfl,hs⟩) λc st' hq=>?_)
 ·rintro⟨rfl,rfl,hs⟩;dsimp only;rw[show X.length+i-1=X.length+(i-1) by omega];refine bw (oV O T nZ h2 ⋯ ?_);dsimp only;cases e:lt (Z.getD i 0) (Z.getD (i-1) 0) with
  |true=>rw[if_pos rfl];exact cj ⟨rfl,i,rfl,⋯,⋯,hs⟩
  |false=>rw[if_neg nofun];exact cj ⟨rfl,rfl,hs.more O nZ ⋯ h2 e⟩
 ·rintro⟨rfl,rfl,hs⟩;exact⟨rfl,_,rfl,⋯,⋯,hs⟩
 ·let⟨rfl,r,rfl,a1,a2,a3⟩:=hq;exact cj (k r a1 a2 a3)
def AX(O:Ask M A E s κ pr n lt){X Z:ue Nat}{pd:Array (Nat×Nat×Nat)}{st:SortSt}(T:Tl pr κ X Z pd st)(nZ:∀x∈Z,x<n){m:Nat}(h0:0<m)(hm:m<=Z.length)(hs:Dsc lt (Z.take m)){Q:uf Nat->SortSt->Prop}
  (k:∀r Z' st',0<r->r<=Z'.length->Z'.Perm Z->Srt lt (Z'.take r)->Tl pr κ X Z' pd st'->Q (a_ r) st'):wpS M A E s (Ln X.length Z.length m) Q st:=by
 unfold Ln;have lm:(Z.take m).length=m:=by rw[cf];omega
 refine bw (C1 T (D:=[]) (B:=Z.take m) (Y:=Z.drop m) (by rw[jd,b8]) (by simp) (by simp[lm]) λst' T'=>?_);rw[jd]at T';have pz:((Z.take m).reverse++Z.drop m).Perm Z:=by
  have:=j6 (Z.drop m) (i7 (Z.take m))
  rwa[b8]at this
 have lz:=pz.length_eq;have et:((Z.take m).reverse++Z.drop m).take m=(Z.take m).reverse:=by rw[List.take_append,fi (by rw[jg];omega),jg,lm,r8,qv,dz]
 rw[<-lz];refine Jq O T' (λx hx=>nZ x (pz.mem_iff.mp hx)) h0 ⋯ (by rw[et];exact hs.rev) λr a1 a2 a3=>k r _ st' a1 a2 pz a3 T'
theorem Ask.irr(O:Ask M A E s κ pr n lt){x:Nat}(h:x<n):lt x x=false:=by
 cases e:lt x x with
 |false=>rfl
 |true=>have:=O.as x x h h e;rw[e]at this;exact this
theorem Dsc.last(O:Ask M A E s κ pr n lt){Z:ue Nat}(nZ:∀x∈Z,x<n){m:Nat}(h0:0<m)(hm:m<=Z.length)(h:Dsc lt (Z.take m)):∀x∈Z.take m,lt x (Z.getD (m-1) 0)=false:=λx hx=>by
 let⟨l,el⟩:=AW (Z:=Z) h0 hm;unfold Dsc at h;rw[el]at h hx;rcases ai.mp hx with q|q
 ·exact(bg.mp h).2.2 x q _ (by simp)
 ·have q:x=Z.getD (m-1) 0:=by simpa using q
  rw[q];exact O.irr (nZ _ (aY ⋯))
theorem Dsc.more(O:Ask M A E s κ pr n lt){Z:ue Nat}(nZ:∀x∈Z,x<n){m:Nat}(hm:m<Z.length)(h:Dsc lt (Z.take m))(e:∀x∈Z.take m,lt x (Z.getD m 0)=false):Dsc lt (Z.take (m+1)):=by
 rw[take_one hm];unfold Dsc at h⊢;rw[bg];refine⟨h,by simp,λx hx y hy=>?_⟩;have hy:y=Z.getD m 0:=by simpa using hy
 rw[hy];exact e x hx
def ER(lt:Nat->Nat->Bool)(Z:ue Nat)(m q:Nat):Prop:=∀x∈(Z.take m).drop (m-(q+1)),∀y∈(Z.take m).drop (m-(q+1)),lt x y=false
def DU(O:Ask M A E s κ pr n lt){X Z:ue Nat}{pd:Array (Nat×Nat×Nat)}{st:SortSt}(T:Tl pr κ X Z pd st){m q:Nat}(hq:q<m)(hm:m<=Z.length)(hd:Dsc lt (Z.take m))(er:ER lt Z m q){Q:Unit->SortSt->Prop}
  (k:∀Z' st',Z'.Perm Z->Dsc lt (Z'.take m)->(∀x,x∈Z'.take m↔x∈Z.take m)->(∀j,m<=j->Z'.getD j 0=Z.getD j 0)->Tl pr κ X Z' pd st'->Q () st'):wpS M A E s (reverseSlice' (X.length+m-(q+1)) (X.length+m)) Q st:=by
 have lm:(Z.take m).length=m:=by rw[cf];omega
 obtain⟨D,eD⟩:∃D,D=Z.take (m-(q+1)):=⟨_,rfl⟩;obtain⟨B,eB⟩:∃B,B=(Z.take m).drop (m-(q+1)):=⟨_,rfl⟩;have e1:Z.take m=D++B:=by rw[eD,eB];exact fI ⋯
 have lD:D.length=m-(q+1):=by rw[eD,cf];omega
 have lB:B.length=q+1:=by rw[eB,dv,lm];omega
 have e2:Z=D++(B++Z.drop m):=by rw[<-ak,<-e1,b8]
 unfold ER at er;rw[<-eB]at er;refine C1 T (D:=D) (B:=B) (Y:=Z.drop m) e2 ⋯ ⋯ λst' T'=>?_;have et:(D++(B.reverse++Z.drop m)).take m=D++B.reverse:=by rw[<-ak,List.take_append,fi (by simp;omega)];simp;omega
 refine k _ st' ?_ ?_ (λx=>?_) (λj hj=>?_) T'
 ·conv=>rhs;rw[e2]
  exact du _ (j6 _ (i7 _))
 ·rw[et];rw[e1]at hd;unfold Dsc at hd⊢;let⟨a1,a2,a3⟩:=bg.mp hd;rw[bg];refine⟨a1,?_,λx hx y hy=>a3 x hx y (i5.mp hy)⟩;exact dq.mpr λi j hi hj _=>er _ (i5.mp (de hi)) _ (i5.mp (de hj))
 ·rw[et,e1,ai,ai,i5]
 ·rw[av,av];congr 1
  conv=>rhs;rw[e2]
  rw[<-ak,<-ak,au (by simp;omega),au (by simp;omega)];simp
def yB(O:Ask M A E s κ pr n lt){X Z:ue Nat}{pd:Array (Nat×Nat×Nat)}{st:SortSt}(T:Tl pr κ X Z pd st)(nZ:∀x∈Z,x<n){m:Nat}(hm:m<Z.length)(hs:Dsc lt (Z.take (m+1))){Q:uf Nat->SortSt->Prop}
  (k:∀r Z' st',0<r->r<=Z'.length->Z'.Perm Z->Srt lt (Z'.take r)->Tl pr κ X Z' pd st'->Q (a_ r) st'):wpS M A E s (FS X.length Z.length m) Q st:=by
 unfold FS;have er0:∀(Z':ue Nat)(i:Nat),(∀x∈Z',x<n)->0<i->i<=Z'.length->ER lt Z' i 0:=λZ' i nz h0 hi=>by
  unfold ER;rw[kJ h0 hi];intro x hx y hy;have hx:x=Z'.getD (i-1) 0:=by simpa using hx
  have hy:y=Z'.getD (i-1) 0:=by simpa using hy
  rw[hx,hy];exact O.irr (nz _ (aY ⋯))
 refine bw (kI ?_);refine bw (md (iy (λi c st'=>∃Z' q,c=(b_,i,q)/\Z'.Perm Z/\Tl pr κ X Z' pd st'/\Dsc lt (Z'.take i)/\q<i/\ER lt Z' i q) (Q:=λc st'=>∃Z' i q,c=(b_,i,q)/\i<=Z.length/\Z'.Perm Z/\Tl pr κ X Z' pd st'/\Dsc lt (Z'.take i)/\q<i/\ER lt Z' i q) (λi c st' h1 h2=>?_) (λc st'=>?_) ⟨Z,0,rfl,jr _,T,hs,⋯,er0 Z _ nZ ⋯ ⋯⟩) λc st' hq=>?_)
 ·rintro⟨Z',q,rfl,pz,T',ds,hq,er⟩;have lz:=pz.length_eq;have nz:∀x∈Z',x<n:=λx hx=>nZ x (pz.mem_iff.mp hx);have low:=ds.last O nz ⋯ ⋯;have ny:Z'.getD i 0<n:=nz _ (aY ⋯);have nv:Z'.getD (i-1) 0<n:=nz _ (aY ⋯);dsimp only;rw[show X.length+i-1=X.length+(i-1) by omega];refine bw (oV O T' nz ⋯ ⋯ ?_);dsimp only;cases e:lt (Z'.getD i 0) (Z'.getD (i-1) 0) with
  |true=>
   rw[if_pos rfl];have lows:∀x∈Z'.take i,lt x (Z'.getD i 0)=false:=λx hx=>O.tr _ _ _ ny nv (nz x (cz hx)) (O.as _ _ ny nv e) (low x hx);by_cases c:q>0
   ·rw[if_pos c];refine bw (DU O T' hq ⋯ ds er λZ2 st2 p2 d2 m2 g2 T2=>?_);have l2:=p2.length_eq;have nz2:∀x∈Z2,x<n:=λx hx=>nz x (p2.mem_iff.mp hx);refine cj ⟨Z2,0,rfl,p2.trans pz,T2,d2.more O nz2 ⋯ (λx hx=>by rw[g2 i (bq _)];exact lows x ((m2 x).mp hx)),⋯,er0 Z2 _ nz2 ⋯ ⋯⟩
   ·rw[if_neg c];exact cj ⟨Z',0,rfl,pz,T',ds.more O nz ⋯ lows,⋯,er0 Z' _ nz ⋯ ⋯⟩
  |false=>
   rw[if_neg nofun];refine bw (oV O T' nz ⋯ ⋯ ?_);dsimp only;cases e2:lt (Z'.getD (i-1) 0) (Z'.getD i 0) with
   |true=>rw[if_pos rfl];exact cj ⟨Z',i,q,rfl,⋯,pz,T',ds,hq,er⟩
   |false=>
    rw[if_neg nofun];have lows:∀x∈Z'.take i,lt x (Z'.getD i 0)=false:=λx hx=>O.tr _ _ _ ny nv (nz x (cz hx)) e2 (low x hx);refine cj ⟨Z',q+1,rfl,pz,T',ds.more O nz ⋯ lows,⋯,?_⟩;have lt':(Z'.take i).length=i:=by rw[cf];omega
    have ed:(Z'.take (i+1)).drop (i+1-(q+1+1))=(Z'.take i).drop (i-(q+1))++[Z'.getD i 0]:=by rw[take_one ⋯,show i+1-(q+1+1)=i-(q+1) by omega,List.drop_append_of_le_length ⋯]
    have vin:Z'.getD (i-1) 0∈(Z'.take i).drop (i-(q+1)):=by
     have e3:(Z'.take i).drop (i-1)=[Z'.getD (i-1) 0]:=kJ ⋯ ⋯;have:Z'.getD (i-1) 0∈(Z'.take i).drop (i-1):=by rw[e3];simp
     rw[show i-1=(i-(q+1))+q by omega,<-List.drop_drop]at this;rw[show(i-(q+1))+q=i-1 by omega]at this;exact d4 this
    have sub:∀x∈(Z'.take i).drop (i-(q+1)),x∈Z'.take i:=λx hx=>d4 hx;intro x hx y hy;rw[ed]at hx hy;rcases ai.mp hx with a|a
    ·rcases ai.mp hy with b|b
     ·exact er x a y b
     ·have b:y=Z'.getD i 0:=by simpa using b
      rw[b];exact lows x (sub x a)
    ·have a:x=Z'.getD i 0:=by simpa using a
     rw[a];rcases ai.mp hy with b|b
     ·exact O.tr _ _ _ (nz y (cz (sub y b))) nv ny (er _ vin y b) e
     ·have b:y=Z'.getD i 0:=by simpa using b
      rw[b];exact O.irr ny
 ·rintro⟨Z',q,rfl,pz,T',ds,hq,er⟩;exact⟨Z',_,q,rfl,⋯,pz,T',ds,hq,er⟩
 ·let⟨Z',i,q,rfl,hi,pz,T',ds,hq,er⟩:=hq;have lz:=pz.length_eq;have nz:∀x∈Z',x<n:=λx hx=>nZ x (pz.mem_iff.mp hx);dsimp only;by_cases c:q>0
  ·rw[if_pos c];refine bw (DU O T' hq ⋯ ds er λZ2 st2 p2 d2 m2 g2 T2=>?_);have l2:=p2.length_eq;rw[<-lz,<-l2];exact AX O T2 (λx hx=>nz x (p2.mem_iff.mp hx)) ⋯ ⋯ d2 λr Z3 st3 b1 b2 b3 b4 b5=>k r Z3 st3 b1 b2 (b3.trans (p2.trans pz)) b4 b5
  ·rw[if_neg c];rw[<-lz];exact AX O T' nz ⋯ ⋯ ds λr Z3 st3 b1 b2 b3 b4 b5=>k r Z3 st3 b1 b2 (b3.trans pz) b4 b5
def Ab(O:Ask M A E s κ pr n lt){X Z:ue Nat}{pd:Array (Nat×Nat×Nat)}{st:SortSt}(T:Tl pr κ X Z pd st)(nZ:∀x∈Z,x<n)(h0:0<Z.length){Q:uf Nat->SortSt->Prop}
  (k:∀r Z' st',0<r->r<=Z'.length->Z'.Perm Z->Srt lt (Z'.take r)->Tl pr κ X Z' pd st'->Q (a_ r) st'):wpS M A E s (countRun' X.length Z.length) Q st:=by
 rw[BZ];have s1:Srt lt (Z.take 1):=by have:=dF (l:=Z) (i:=0) h0;rw[fq]at this;rw[this];exact i8 _ _
 refine bw (md (iy (λi c st'=>st'=st/\c=(b_,i)/\Srt lt (Z.take i)) (Q:=λc st'=>st'=st/\∃r,c=(b_,r)/\0<r/\r<=Z.length/\Srt lt (Z.take r)/\(r<Z.length->lt (Z.getD r 0) (Z.getD (r-1) 0)=true)) (λi c st' h1 h2=>?_) (λc st'=>?_) ⟨rfl,rfl,s1⟩) λc st' hq=>?_)
 ·rintro⟨rfl,rfl,hs⟩;dsimp only;rw[show X.length+i-1=X.length+(i-1) by omega];refine bw (oV O T nZ h2 ⋯ ?_);dsimp only;cases e:lt (Z.getD i 0) (Z.getD (i-1) 0) with
  |true=>rw[if_pos rfl];exact cj ⟨rfl,i,rfl,⋯,⋯,hs,λ_=>e⟩
  |false=>rw[if_neg nofun];exact cj ⟨rfl,rfl,hs.more O nZ ⋯ h2 e⟩
 ·rintro⟨rfl,rfl,hs⟩;exact⟨rfl,_,rfl,⋯,⋯,hs,λq=>by omega⟩
 ·let⟨rfl,r,rfl,a1,a2,a3,a4⟩:=hq;dsimp only;by_cases c1:(r == Z.length)=true
  ·rw[if_pos c1];exact cj (k r Z st' a1 a2 (jr _) a3 T)
  rw[if_neg c1];rw[beq_iff_eq]at c1;have e:=a4 ⋯;have ny:Z.getD r 0<n:=nZ _ (aY ⋯);have nv:Z.getD (r-1) 0<n:=nZ _ (aY ⋯);have n0:Z.getD 0 0<n:=nZ _ (aY h0);by_cases c2:r>1
  ·rw[if_pos c2];rw[show X.length+r-1=X.length+(r-1) by omega];have w:=oV (M:=M) (A:=A) (E:=E) (s:=s) O T nZ (i:=0) (j:=r-1) h0 ⋯ (Q:=λb st2=>b=a_ (lt (Z.getD 0 0) (Z.getD (r-1) 0))/\st2=st') ⟨rfl,rfl⟩;rw[Nat.add_zero]at w;refine bw (md w λb st2 hb=>?_);let⟨rfl,rfl⟩:=hb;dsimp only;cases e2:lt (Z.getD 0 0) (Z.getD (r-1) 0) with
   |true=>rw[if_pos rfl];exact cj (k r Z st2 a1 a2 (jr _) a3 T)
   |false=>
    rw[if_neg nofun];have lm:(Z.take r).length=r:=by rw[cf];omega
    refine bw (C1 T (D:=[]) (B:=Z.take r) (Y:=Z.drop r) (by rw[jd,b8]) (by simp) (by simp[lm]) λst3 T3=>?_);rw[jd]at T3;have pz:((Z.take r).reverse++Z.drop r).Perm Z:=by
     have:=j6 (Z.drop r) (i7 (Z.take r))
     rwa[b8]at this
    have lz:=pz.length_eq;have nz:∀x∈(Z.take r).reverse++Z.drop r,x<n:=λx hx=>nZ x (pz.mem_iff.mp hx);have et:((Z.take r).reverse++Z.drop r).take r=(Z.take r).reverse:=by rw[List.take_append,fi (by rw[jg];omega),jg,lm,r8,qv,dz]
    have eg:((Z.take r).reverse++Z.drop r).getD r 0=Z.getD r 0:=by have:=C0 (X:=(Z.take r).reverse) (Z:=Z.drop r) 0;rw[jg,lm,Nat.add_zero]at this;rw[this,av,List.getElem?_drop,av,Nat.add_zero]
    have d1:Dsc lt (((Z.take r).reverse++Z.drop r).take (r+1)):=by
     refine Dsc.more O nz ⋯ (by rw[et];exact a3.rev) λx hx=>?_;rw[et]at hx;rw[eg];have hx:=i5.mp hx;have nx:=nZ x (cz hx);have g0:lt x (Z.getD 0 0)=false:=by
      have s0:=a3;unfold Srt at s0;have hc:=d7 (l:=Z.take r) (i:=0) ⋯;have e0:(Z.take r)[0]'⋯=Z.getD 0 0:=by rw[gz];simp[h0]
      rw[fq,e0]at hc;rw[hc]at s0 hx;rcases bx.mp hx with q|q
      ·rw[q];exact O.irr n0
      ·exact(f9.mp s0).1 x q
     exact O.tr _ _ _ ny nv nx (O.as _ _ ny nv e) (O.tr _ _ _ nv n0 nx e2 g0)
    rw[<-lz];exact yB O T3 nz ⋯ d1 λq Z3 st3 b1 b2 b3 b4 b5=>k q Z3 st3 b1 b2 (b3.trans pz) b4 b5
  ·rw[if_neg c2];obtain rfl:r=1:=⋯;have d1:Dsc lt (Z.take (1+1)):=by
    refine Dsc.more O nZ ⋯ (by rw[show Z.take 1=[Z.getD 0 0] by have:=dF (l:=Z) (i:=0) h0;rwa[fq]at this];exact i8 _ _) λx hx=>?_;rw[show Z.take 1=[Z.getD 0 0] by have:=dF (l:=Z) (i:=0) h0;rwa[fq]at this]at hx;have hx:x=Z.getD 0 0:=by simpa using hx
    rw[hx];exact O.as _ _ ny n0 e
   exact yB O T nZ ⋯ d1 k
end
section
variable{M:Model}{A:t9}{E:f_ 0}{s:tw}{κ:kr}{pr:Nat->Keyed}{n:Nat}{lt:Nat->Nat->Bool}
def FU(P B Y:ue Nat)(y:Nat):bubble (arr pr (P++(B++y::Y))) (P.length+B.length) B.length=arr pr (P++(y::(B++Y))):=by
 apply Array.ext_getElem?;intro i;rw[getElem?_bubble (by rw[eC];simp) _ ⋯];have g:∀(l:ue Nat)(i:Nat),(arr pr l)[i]?=(l[i]?).map pr:=λl i=>by simp[arr]
 simp only[g,Nat.add_sub_cancel];by_cases h1:i=P.length
 ·rw[if_pos h1,h1];congr 1;rw[au ⋯,au ⋯,au ⋯];simp
 rw[if_neg h1];by_cases h2:P.length<i/\i<=P.length+B.length
 ·rw[if_pos h2];congr 1;rw[au ⋯,b9 ⋯,au ⋯,show i-P.length=(i-1-P.length)+1 by omega,fu,b9 ⋯]
 rw[if_neg h2];congr 1;by_cases h3:i<P.length
 ·rw[b9 h3,b9 h3]
 ·obtain⟨k,rfl⟩:∃k,i=P.length+(B.length+(k+1)):=⟨i-(P.length+B.length+1),⋯⟩;rw[au (o8 _ _),au (o8 _ _),ig,au (o8 _ _),ig,fu,<-Nat.add_assoc,fu,au (o8 _ _),ig]
def HQ{Z:ue Nat}{l k x:Nat}(hk:k<=Z.length)(h:x∈(Z.take k).drop l):∃i,l<=i/\i<k/\x=Z.getD i 0:=by let⟨i,hi,rfl⟩:=List.mem_iff_getElem.mp h;rw[dv,cf]at hi;refine⟨l+i,⋯,⋯,?_⟩;rw[jl,gz,av,c8 ⋯];rfl
def Srt.at(O:Ask M A E s κ pr n lt){Z:ue Nat}(nZ:∀x∈Z,x<n){k:Nat}(hk:k<=Z.length)(h:Srt lt (Z.take k)){i j:Nat}(hij:i<=j)(hj:j<k):lt (Z.getD j 0) (Z.getD i 0)=false:=by
 by_cases c:i=j
 ·rw[c];exact O.irr (nZ _ (aY ⋯))
 ·have lm:(Z.take k).length=k:=by rw[cf];omega
  have:=dq.mp h i j ⋯ ⋯ ⋯;rw[gz,gz]at this;have ei:Z.getD i 0=Z[i]'⋯:=by simp[show i<Z.length by omega]
  have ej:Z.getD j 0=Z[j]'⋯:=by simp[show j<Z.length by omega]
  rw[ei,ej];exact this
def wO(O:Ask M A E s κ pr n lt){X Z:ue Nat}{pd:Array (Nat×Nat×Nat)}{st:SortSt}(T:Tl pr κ X Z pd st)(nZ:∀x∈Z,x<n){m ok:Nat}(hm:m<=Z.length)(hok:ok<=m)(hs:Srt lt (Z.take ok)){Q:Bool->SortSt->Prop}
  (k:∀Z' st',Z'.Perm Z->Srt lt (Z'.take m)->Tl pr κ X Z' pd st'->Q true st'):wpS M A E s (binarySort' X.length m ok) Q st:=by
 rw[binarySort'_eq]
 refine bw (md (iy (I:=λk c st'=>c=(b_,())/\∃Z',Z'.Perm Z/\Tl pr κ X Z' pd st'/\Srt lt (Z'.take (min k m)))
  (Q:=λc st'=>c=(b_,())/\∃Z',Z'.Perm Z/\Tl pr κ X Z' pd st'/\Srt lt (Z'.take m)) ?step ?fin ?init) ?post)
 case post=>
  rintro c st' ⟨rfl,Z',p,T',h⟩
  exact cj (k Z' st' p h T')
 case init=>
  refine⟨rfl,Z,jr _,T,?_⟩
  by_cases h1:ok=0
  ·by_cases h2:m=0
   ·rw[h2,Nat.min_zero,qv];exact j9
   ·rw[show min (max ok 1) m=1 by omega]
    have:=dF (l:=Z) (i:=0) ⋯
    rw[fq]at this
    rw[this]
    exact i8 _ _
  ·rwa[show min (max ok 1) m=ok by omega]
 case fin=>
  rintro c st' ⟨hc,Z',p,T',h⟩
  refine⟨hc,Z',p,T',?_⟩
  rwa[show min (max (max ok 1) m) m=m by omega]at h
 case step=>
  rintro k c st' hak hkn ⟨rfl,Z',p,T',hs'⟩
  rw[show min k m=k by omega]at hs'
  have lz:=p.length_eq
  have nz:∀x∈Z',x<n:=λx hx=>nZ x (p.mem_iff.mp hx)
  have gn:∀i,i<Z'.length->Z'.getD i 0<n:=λi hi=>nz _ (aY hi)
  refine bw (md (iy (I:=λx c st''=>st''=st'/\∃l r,c=(b_,l,r)/\l<=r/\r<=k/\r-l<=k-x/\
    (∀i,i<l->lt (Z'.getD k 0) (Z'.getD i 0)=false)/\(∀i,r<=i->i<k->lt (Z'.getD k 0) (Z'.getD i 0)=true))
   (Q:=λc st''=>st''=st'/\∃l r,c=(b_,l,r)/\l<=k/\
    (∀i,i<l->lt (Z'.getD k 0) (Z'.getD i 0)=false)/\(∀i,l<=i->i<k->lt (Z'.getD k 0) (Z'.getD i 0)=true)) ?istep ?ifin ?iinit) ?ipost)
  case iinit=>exact⟨rfl,0,k,rfl,⋯,⋯,⋯,λi hi=>by omega,λi h1 h2=>by omega⟩
  case ifin=>
   rintro c st'' ⟨rfl,l,r,rfl,hlr,hrk,hm,hlo,hhi⟩
   have:l=r:=⋯
   subst this
   exact⟨rfl,l,l,rfl,hrk,hlo,hhi⟩
  case istep=>
   rintro x c st'' _ hxk ⟨rfl,l,r,rfl,hlr,hrk,hm,hlo,hhi⟩
   dsimp only
   by_cases hge:l >= r
   ·rw[if_pos hge]
    have:l=r:=⋯
    subst this
    exact cj ⟨rfl,l,l,rfl,hrk,hlo,hhi⟩
   ·rw[if_neg hge]
    refine bw (oV O T' nz ⋯ ⋯ ?_)
    dsimp only
    cases e:lt (Z'.getD k 0) (Z'.getD ((l+r)/2) 0) with
    |true=>
     rw[if_pos rfl]
     refine cj ⟨rfl,l,(l+r)/2,rfl,⋯,⋯,⋯,hlo,λi h1 h2=>?_⟩
     cases e2:lt (Z'.getD k 0) (Z'.getD i 0) with
     |true=>rfl
     |false=>
      have:=O.tr _ _ _ (gn ((l+r)/2) ⋯) (gn i ⋯) (gn k ⋯) (hs'.at O nz ⋯ h1 h2) e2
      rw[e]at this;exact absurd this nofun
    |false=>
     rw[if_neg nofun]
     refine cj ⟨rfl,(l+r)/2+1,r,rfl,⋯,⋯,⋯,λi h1=>?_,hhi⟩
     exact O.tr _ _ _ (gn i ⋯) (gn ((l+r)/2) ⋯) (gn k ⋯) (hs'.at O nz ⋯ ⋯ ⋯) e
  case ipost=>
   rintro c st'' ⟨rfl,l,r,rfl,hlk,hlo,hhi⟩
   show wpS _ _ _ _ (do moveDown' (X.length+k) (X.length+l);pure (sk (b_,()))) _ _
   rw[moveDown'_eq]
   obtain⟨D,eD⟩:∃D,D=Z'.take l:=⟨_,rfl⟩
   obtain⟨B,eB⟩:∃B,B=(Z'.take k).drop l:=⟨_,rfl⟩
   have lD:D.length=l:=by rw[eD,cf];omega
   have lB:B.length=k-l:=by rw[eB,dv,cf];omega
   have et:Z'.take k=D++B:=by rw[eD,eB];exact fI hlk
   have ez:Z'=D++(B++(Z'.getD k 0::Z'.drop (k+1))):=by
    conv=>lhs;rw[<-b8 k Z',et,ak]
    rw[d7 ⋯]
    simp[show k<Z'.length by omega]
   have eb:bubble (arr pr (X++Z')) (X.length+k) (X.length+k-(X.length+l))=arr pr (X++(D++(Z'.getD k 0::(B++Z'.drop (k+1))))):=by
    have:=FU (pr:=pr) (X++D) B (Z'.drop (k+1)) (Z'.getD k 0)
    rw[az,lD,lB,ak,ak,<-ez,show X.length+l+(k-l)=X.length+k by omega]at this
    rw[show X.length+k-(X.length+l)=k-l by omega]
    exact this
   refine bw (wpS_modify (cj ⟨rfl,D++(Z'.getD k 0::(B++Z'.drop (k+1))),?_,⟨?_,T'.k,T'.p,T'.f⟩,?_⟩))
   ·refine kj ?_ p
    conv=>rhs;rw[ez]
    exact du _ (List.perm_middle.symm)
   ·rw[<-eb,<-T'.a]
   ·rw[show min (k+1) m=k+1 by omega]
    have et2:(D++(Z'.getD k 0::(B++Z'.drop (k+1)))).take (k+1)=D++(Z'.getD k 0::B):=by
     rw[show D++(Z'.getD k 0::(B++Z'.drop (k+1)))=(D++(Z'.getD k 0::B))++Z'.drop (k+1) by simp]
     rw[List.take_append_of_le_length (by simp;omega),fi (by simp;omega)]
    rw[et2]
    rw[et]at hs'
    unfold Srt at hs'⊢
    let⟨a1,a2,a3⟩:=bg.mp hs'
    refine bg.mpr ⟨a1,f9.mpr ⟨λx hx=>?_,a2⟩,λx hx y hy=>?_⟩
    ·rw[eB]at hx
     let⟨i,i1,i2,rfl⟩:=HQ ⋯ hx
     exact O.as _ _ (gn k ⋯) (gn i ⋯) (hhi i i1 i2)
    ·rcases bx.mp hy with rfl|hy
     ·rw[eD]at hx
      let⟨i,i1,i2,rfl⟩:=HQ (l:=0) (Z:=Z') (k:=l) (x:=x) ⋯ (by rwa[fq])
      exact hlo i i2
     ·exact a3 x hx y hy
end
def gI:Nat->ue (ue Nat×Nat)->ue (Nat×Nat×Nat)
 |_,[]=>[]
 |b,(u,w)::r=>(b,u.length,w)::gI (b+u.length) r
def aO(g:ue (ue Nat×Nat)):ue Nat:=(g.map jv).flatten
def tW(g h:ue (ue Nat×Nat)):aO (g++h)=aO g++aO h:=by simp[aO]
def iY(u:ue Nat×Nat)(h:ue (ue Nat×Nat)):aO (u::h)=u.1++aO h:=by simp[aO]
def tX:aO []=[]:=rfl
theorem iR:∀(b:Nat)(g:ue (ue Nat×Nat)),(gI b g).length=g.length
 |_,[]=>rfl
 |b,(u,w)::r=>by show(gI _ r).length+1=_;rw[iR];rfl
theorem fK:∀(b:Nat)(g h:ue (ue Nat×Nat)),gI b (g++h)=gI b g++gI (b+(aO g).length) h
 |b,[],h=>rfl
 |b,(u,w)::r,h=>by
  show(b,u.length,w)::gI (b+u.length) (r++h)=_
  rw[fK,iY,az,<-Nat.add_assoc];rfl
def P6{α:Type}(l r:ue α)(a b:α):(l++a::r).set l.length b=l++b::r:=by simp
def Jr{α:Type}(l r:ue α)(a b:α):(l++a::b::r).eraseIdx (l.length+1)=l++a::r:=by rw[List.eraseIdx_append_of_length_le ⋯];simp
def DV{α:Type}(l:ue α)(a:α)(f:α->α):(l++[a]).modify l.length f=l++[f a]:=by
 apply k7;intro i;rw[List.getElem?_modify];by_cases h:l.length=i
 ·subst h;simp
 ·simp only[if_neg h];by_cases h2:i<l.length
  ·rw[b9 h2,b9 h2];simp
  ·rw[jm (by simp;omega),jm (by simp;omega)];rfl
structure Rn(pr:Nat->Keyed)(κ:kr)(lt:Nat->Nat->Bool)(n:Nat)(g:ue (ue Nat×Nat))(R:ue Nat)(st:SortSt):Prop where
 a:arrOf st=arr pr (aO g++R)
 k:kindOf st=κ
 f:m4 st=none
 p:(d8 st).toList=gI 0 g
 s:∀u∈g,Srt lt u.1/\0<u.1.length
 q:(aO g++R).Perm (fg n)
section
variable{M:Model}{A:t9}{E:f_ 0}{s:tw}{κ:kr}{pr:Nat->Keyed}{n:Nat}{lt:Nat->Nat->Bool}
theorem Rn.sz{g:ue (ue Nat×Nat)}{R:ue Nat}{st:SortSt}(h:Rn pr κ lt n g R st):(d8 st).size=g.length:=by rw[<-oq,h.p,iR]
theorem Rn.lo{g:ue (ue Nat×Nat)}{R:ue Nat}{st:SortSt}(h:Rn pr κ lt n g R st):∀x∈aO g++R,x<n:=λx hx=>by have:=h.q.mem_iff.mp hx;simpa using this
theorem Rn.len{g:ue (ue Nat×Nat)}{R:ue Nat}{st:SortSt}(h:Rn pr κ lt n g R st):(aO g).length+R.length=n:=by have:=h.q.length_eq;simpa using this
theorem Rn.at{S S':ue (ue Nat×Nat)}{u:ue Nat×Nat}{R:ue Nat}{st:SortSt}(h:Rn pr κ lt n (S++u::S') R st):(d8 st)[S.length]?=a_ ((aO S).length,u.1.length,u.2):=by rw[<-Array.getElem?_toList,h.p,fK,j1,au (by rw[iR];omega),iR,r8];rfl
def rF(O:Ask M A E s κ pr n lt){S S':ue (ue Nat×Nat)}{u v:ue Nat×Nat}{R:ue Nat}{st:SortSt}(h:Rn pr κ lt n (S++u::v::S') R st){Q:Bool->SortSt->Prop}
  (k:∀W st',W.length=u.1.length+v.1.length->Rn pr κ lt n (S++(W,u.2)::S') R st'->Q true st'):wpS M A E s (mergeAt' S.length) Q st:=by
 have su:=h.s u (by simp);have sv:=h.s v (by simp);have ef:aO (S++u::v::S')++R=aO S++(u.1++(v.1++(aO S'++R))):=by simp[aO]
 have hl:=h.lo;rw[ef]at hl;have p2:(d8 st)[S.length+1]?=a_ ((aO S).length+u.1.length,v.1.length,v.2):=by
  have h':Rn pr κ lt n ((S++[u])++v::S') R st:=by rw[ak];exact h
  have:=h'.at
  rw[az,tW,az]at this;simpa[aO] using this
 refine DT O su.1 sv.1 (λx hx=>hl x (by simp[hx])) (λx hx=>hl x (by simp[hx])) su.2 sv.2 h.k h.f (X:=aO S) (Y:=aO S'++R) (by rw[h.a,ef]) h.at p2 λW st' w1 w2 w3 w4 w5 w6=>k W st' (by rw[w1.length_eq,az]) ?_;have lw:W.length=u.1.length+v.1.length:=by rw[w1.length_eq,az]
 have ew:aO (S++(W,u.2)::S')++R=aO S++(W++(aO S'++R)):=by simp[aO]
 refine⟨by rw[w3,ew],w5,w6,?_,λz hz=>?_,?_⟩
 ·rw[w4,Array.toList_eraseIdxIfInBounds,Array.toList_setIfInBounds,h.p,fK,fK]
  show(((gI 0 S++(_::_::_)).set S.length _).eraseIdx (S.length+1))=_
  have lp:=iR 0 S;rw[<-lp,P6,Jr]
  show gI 0 S++(_::gI _ S')=gI 0 S++(_::gI _ S')
  rw[j1,lw,Nat.add_assoc]
 ·rcases ai.mp hz with a|a
  ·exact h.s z (by simp[a])
  ·rcases bx.mp a with rfl|a
   ·exact⟨w2,by show 0<W.length;omega⟩
   ·exact h.s z (by simp[a])
 ·have:=h.q;rw[ef]at this;rw[ew];refine kj (du _ ?_) this;have:=j6 (aO S'++R) w1
  rwa[ak u.1]at this
def Lo{α:Type}{g:ue α}{i:Nat}(h:i+1<g.length):∃S u v S',g=S++u::v::S'/\S.length=i:=by
 refine⟨g.take i,g[i],g[i+1],g.drop (i+2),?_,by rw[cf];omega⟩
 conv=>lhs;rw[<-b8 i g,d7 ⋯,d7 ⋯]
def tY(size lo n:Nat):StateT SortSt Sem (ForInStep (uf Unit×Nat)):=do
 match(d8 (<-get)).back? with
 |some (s1,n1,_)=>
  let pw:=power' size (2*s1+n1) (2*s1+n1+n1+n) size
  let r <-forIn [0:size] ((b_:uf Unit),()) λ_ _=>do
   let p:=d8 (<-get)
   match(if p.size>1 then p[p.size-2]? else b_) with
   |some (_,_,older)=>
    if older<=pw then pure (.done (b_,())) else do
     let b <-mergeAt' (p.size-2)
     if !b then pure (.done (a_ (),())) else pure (.yield (b_,()))
   |_=>pure (.done (b_,()))
  match r.1 with
  |some a=>pure (.done (a_ a,lo))
  |none=>do
   modify λs=>oa s ((d8 s).modify ((d8 s).size-1) λ(st,len,_)=>(st,len,pw))
   modify λs=>oa s ((d8 s).push (lo,n,0))
   pure (.yield (b_,lo+n))
 |_=>do
  modify λs=>oa s ((d8 s).push (lo,n,0))
  pure (.yield (b_,lo+n))
def C2(size minrun lo:Nat):StateT SortSt Sem (ForInStep (uf Unit×Nat)):=
 if lo >= size then pure (.done (b_,lo)) else do
  match(<-countRun' lo (size-lo)) with
  |some found=>
   if found<minrun then do
    rule "list.sort.binary-insertion"
    let b <-binarySort' lo (min (size-lo) minrun) found
    if !b then pure (.done (a_ (),lo)) else tY size lo (min (size-lo) minrun)
   else tY size lo found
  |_=>pure (.done (a_ (),lo))
def Lp(size:Nat):StateT SortSt Sem Unit:=do
 for _ in [0:size] do
  let p:=d8 (<-get)
  if p.size<=1 then break
  let i:=p.size-2
  let before:=if i>0 then p[i-1]?.map (·.2.1) else b_
  let i:=if before.any (· < (p[i+1]?.elim 0 (·.2.1))) then i-1 else i
  if !(<-mergeAt' i) then return
def C3:sortRuns'=(do
 let size:=(arrOf (<-get)).size
 let r <-forIn [0:size] ((b_:uf Unit),0) λ_ c=>C2 size (minRun' size size 0) c.2
 match r.1 with
 |some a=>pure a
 |none=>Lp size):=by
 rw[sortRuns'_eq]
 refine bind_congr λst=>?_
 dsimp only
 refine congr (congrArg _ (congrArg _ (funext λx=>funext λc=>?_))) (funext λr=>?_)
 ·unfold C2
  by_cases h:c.2 >= (arrOf st).size
  ·rw[if_pos h,if_pos h]
  ·rw[if_neg h,if_neg h]
   refine bind_congr λo=>?_
   cases o with
   |none=>rfl
   |some f=>
    dsimp only
    by_cases h2:f<minRun' (arrOf st).size (arrOf st).size 0
    ·rw[if_pos h2,if_pos h2]
     refine bind_congr λ_=>?_
     refine bind_congr λb=>?_
     cases b
     ·rfl
     ·unfold tY
      refine bind_congr λst2=>?_
      cases e:(d8 st2).back? with
      |none=>rfl
      |some t=>
       let⟨a1,a2,a3⟩:=t
       dsimp only
       refine bind_congr λr=>?_
       let⟨r1,r2⟩:=r
       cases r1 <;> rfl
    ·rw[if_neg h2,if_neg h2]
     unfold tY
     refine bind_congr λst2=>?_
     cases e:(d8 st2).back? with
      |none=>rfl
      |some t=>
       let⟨a1,a2,a3⟩:=t
       dsimp only
       refine bind_congr λr=>?_
       let⟨r1,r2⟩:=r
       cases r1 <;> rfl
 ·let⟨r1,r2⟩:=r
  cases r1
  ·rfl
  ·rfl
end
section
variable{M:Model}{A:t9}{E:f_ 0}{s:tw}{κ:kr}{pr:Nat->Keyed}{n:Nat}{lt:Nat->Nat->Bool}
theorem Rn.push{g:ue (ue Nat×Nat)}{Z:ue Nat}{st:SortSt}(h:Rn pr κ lt n g Z st){m:Nat}(h0:0<m)(hm:m<=Z.length)(hs:Srt lt (Z.take m)):Rn pr κ lt n (g++[(Z.take m,0)]) (Z.drop m) (oa st ((d8 st).push ((aO g).length,m,0))):=by
 have lm:(Z.take m).length=m:=by rw[cf];omega
 have ef:aO (g++[(Z.take m,0)])++Z.drop m=aO g++Z:=by rw[tW,iY,tX,dz,ak,b8]
 refine⟨by rw[ef];exact h.a,h.k,h.f,?_,λu hu=>?_,by rw[ef];exact h.q⟩
 ·show((d8 st).push _).toList=_
  rw[Array.toList_push,h.p,fK,j1]
  show _=gI 0 g++[(_,(Z.take m).length,0)]
  rw[lm]
 ·rcases ai.mp hu with a|a
  ·exact h.s u a
  ·have a:u=(Z.take m,0):=by simpa using a
   rw[a];exact⟨hs,by show 0<(Z.take m).length;omega⟩
theorem Rn.pow{S:ue (ue Nat×Nat)}{u:ue Nat×Nat}{Z:ue Nat}{st:SortSt}(h:Rn pr κ lt n (S++[u]) Z st)(pw:Nat):Rn pr κ lt n (S++[(u.1,pw)]) Z (oa st ((d8 st).modify ((d8 st).size-1) λx=>(x.1,x.2.1,pw))):=by
 have ef:aO (S++[(u.1,pw)])=aO (S++[u]):=by simp[aO]
 have hz:=h.sz;rw[az]at hz;refine⟨by rw[ef];exact h.a,h.k,h.f,?_,λv hv=>?_,by rw[ef];exact h.q⟩
 ·show((d8 st).modify _ _).toList=_
  rw[Array.toList_modify,h.p,fK,fK,hz]
  show(gI 0 S++[_]).modify S.length _=gI 0 S++[_]
  have:=DV (gI 0 S) (0+(aO S).length,u.1.length,u.2) (λx=>(x.1,x.2.1,pw));rw[iR]at this;exact this
 ·rcases ai.mp hv with a|a
  ·exact h.s v (by simp[a])
  ·have a:v=(u.1,pw):=by simpa using a
   rw[a];exact h.s u (by simp)
def HU{α:Type}{g:ue α}(h:g≠[]):∃S u,g=S++[u]:=⟨g.dropLast,g.getLast h,(List.dropLast_concat_getLast h).symm⟩
def yC(O:Ask M A E s κ pr n lt){g:ue (ue Nat×Nat)}{Z:ue Nat}{st:SortSt}(h:Rn pr κ lt n g Z st){m:Nat}(h0:0<m)(hm:m<=Z.length)(hs:Srt lt (Z.take m)){Q:ForInStep (uf Unit×Nat)->SortSt->Prop}
  (k:∀g' st',(aO g').length=(aO g).length+m->Rn pr κ lt n g' (Z.drop m) st'->Q (.yield (b_,(aO g).length+m)) st'):wpS M A E s (tY n (aO g).length m) Q st:=by
 unfold tY
 have lm:(Z.take m).length=m:=by rw[cf];omega
 have fin:∀g' st',(aO g').length=(aO g).length->Rn pr κ lt n g' Z st'->wpS M A E s (do
   modify λs=>oa s ((d8 s).push ((aO g).length,m,0))
   pure (.yield (b_,(aO g).length+m))) Q st':=λg' st' e r=>by
  refine bw (wpS_modify (cj ?_))
  refine k (g'++[(Z.take m,0)]) _ ?_ ?_
  ·rw[tW,iY,tX,dz,az,e,lm]
  ·rw[<-e];exact r.push h0 hm hs
 refine bw (wpS_get ?_)
 by_cases hg:g=[]
 ·have hb:(d8 st).back?=b_:=by rw[<-Array.getLast?_toList,h.p,hg];rfl
  rw[hb]
  exact fin g st rfl h
 ·let⟨S,u,eg⟩:=HU hg
  have hb:(d8 st).back?=a_ ((aO S).length,u.1.length,u.2):=by
   rw[<-Array.getLast?_toList,h.p,eg,fK,j1]
   show(gI 0 S++[_]).getLast?=_
   rw[List.getLast?_concat]
  rw[hb]
  dsimp only
  generalize power' n (2*(aO S).length+u.1.length) (2*(aO S).length+u.1.length+u.1.length+m) n=pw
  refine bw (md (iy (λi c st'=>c=(b_,())/\∃g',g'≠[]/\(aO g').length=(aO g).length/\Rn pr κ lt n g' Z st') (Q:=λc st'=>c=(b_,())/\∃g',g'≠[]/\(aO g').length=(aO g).length/\Rn pr κ lt n g' Z st') (λi c st' h1 h2=>?_) (λc st' hq=>hq) ⟨rfl,g,hg,rfl,h⟩) λc st' hq=>?_)
  ·rintro⟨rfl,g',hn,e,r⟩
   refine bw (wpS_get ?_)
   rw[r.sz]
   by_cases c:g'.length>1
   ·rw[if_pos c]
    let⟨S2,u2,v2,S3,eg2,l2⟩:=Lo (g:=g') (i:=g'.length-2) ⋯
    have l3:S3=[]:=by
     have:=congrArg List.length eg2
     simp at this
     exact ow.mp ⋯
    subst l3
    rw[<-l2]
    have ra:Rn pr κ lt n (S2++u2::v2::[]) Z st':=eg2▸r
    rw[ra.at]
    dsimp only
    by_cases c2:u2.2<=pw
    ·rw[if_pos c2]
     exact cj ⟨rfl,g',hn,e,r⟩
    ·rw[if_neg c2]
     refine bw (rF O ra λW st2 lw r2=>?_)
     refine cj ⟨rfl,_,by simp,?_,r2⟩
     rw[<-e,eg2]
     simp[aO]
     omega
   ·rw[if_neg c]
    exact cj ⟨rfl,g',hn,e,r⟩
  ·let⟨rfl,g',hn,e,r⟩:=hq
   dsimp only
   let⟨S2,u2,rfl⟩:=HU hn
   refine bw (wpS_modify ?_)
   exact fin _ _ (by rw[<-e];simp[aO]) (r.pow pw)
def FV(O:Ask M A E s κ pr n lt)(mr:Nat){g:ue (ue Nat×Nat)}{Z:ue Nat}{st:SortSt}(h:Rn pr κ lt n g Z st){Q:ForInStep (uf Unit×Nat)->SortSt->Prop}
  (k0:(aO g).length=n->Q (.done (b_,(aO g).length)) st)
  (k:∀g' Z' st',(aO g).length<(aO g').length->Rn pr κ lt n g' Z' st'->Q (.yield (b_,(aO g').length)) st'):wpS M A E s (C2 n mr (aO g).length) Q st:=by
 unfold C2;have hl:=h.len;by_cases c:(aO g).length >= n
 ·rw[if_pos c];exact cj (k0 ⋯)
 rw[if_neg c];have T:Tl pr κ (aO g) Z (d8 st) st:=⟨h.a,h.k,rfl,h.f⟩;have nZ:∀x∈Z,x<n:=λx hx=>h.lo x (ah _ hx);have ez:n-(aO g).length=Z.length:=⋯;rw[ez];have up:∀Z' st',Z'.Perm Z->Tl pr κ (aO g) Z' (d8 st) st'->Rn pr κ lt n g Z' st':=λZ' st' p T'=>⟨T'.a,T'.k,T'.f,by rw[T'.p];exact h.p,h.s,(du _ p).trans h.q⟩;refine bw (Ab O T nZ ⋯ λr Z' st' a1 a2 a3 a4 a5=>?_);dsimp only;have lz:=a3.length_eq;by_cases c2:r<mr
 ·rw[if_pos c2];refine bw (kI ?_);refine bw (wO O a5 (λx hx=>nZ x (a3.mem_iff.mp hx)) (m:=min Z.length mr) ⋯ ⋯ a4 λZ2 st2 b1 b2 b3=>?_);have l2:=b1.length_eq;exact yC O (up Z2 st2 (b1.trans a3) b3) ⋯ ⋯ b2 λg' st3 c1 c2=>c1▸k g' _ st3 ⋯ c2
 ·rw[if_neg c2];exact yC O (up Z' st' a3 a5) a1 a2 a4 λg' st3 c1 c2=>c1▸k g' _ st3 ⋯ c2
theorem Rn.few{g:ue (ue Nat×Nat)}{R:ue Nat}{st:SortSt}(h:Rn pr κ lt n g R st):g.length<=n:=by
 have:∀g:ue (ue Nat×Nat),(∀u∈g,0<u.1.length)->g.length<=(aO g).length:=by
  intro g
  induction g with
  |nil=>intro _;exact bq _
  |cons u r ih=>intro hu;rw[iY,az,dm];have:=ih λv hv=>hu v (aj _ hv);have:=hu u (aw ..);omega
 have:=this g λu hu=>(h.s u hu).2;have:=h.len;omega
def Js(O:Ask M A E s κ pr n lt){g:ue (ue Nat×Nat)}{st:SortSt}(h:Rn pr κ lt n g [] st){Q:Unit->SortSt->Prop}
  (k:∀W st',W.Perm (fg n)->Srt lt W->arrOf st'=arr pr W->m4 st'=b_->Q () st'):wpS M A E s (Lp n) Q st:=by
 unfold Lp;refine bw (md (iy (λi c st'=>c=(b_,())/\∃g',(g'.length<=1\/g'.length+i<=n)/\Rn pr κ lt n g' [] st') (Q:=λc st'=>c=(b_,())/\∃g',g'.length<=1/\Rn pr κ lt n g' [] st') (λi c st' h1 h2=>?_) (λc st'=>?_) ⟨rfl,g,.inr h.few,h⟩) λc st' hq=>?_)
 ·rintro⟨rfl,g',hx,r⟩;refine bw (wpS_get ?_);dsimp only;rw[r.sz];by_cases c:g'.length<=1
  ·rw[if_pos c];exact cj ⟨rfl,g',c,r⟩
  ·rw[if_neg c];generalize ei:(if Option.any _ _=true then g'.length-2-1 else g'.length-2)=j;have hj:j+1<g'.length:=by
    have hb:∀b:Bool,(if b=true then g'.length-2-1 else g'.length-2)+1<g'.length:=λb=>by
     cases b
     ·rw[if_neg nofun];omega
     ·rw[if_pos rfl];omega
    rw[<-ei];exact hb _
   let⟨S,u,v,S',rfl,rfl⟩:=Lo hj;refine bw (rF O r λW st2 lw r2=>?_);refine cj ⟨rfl,_,?_,r2⟩;simp at hx c⊢;omega
 ·rintro⟨rfl,g',hx,r⟩;exact⟨rfl,g',⋯,r⟩
 ·let⟨rfl,g',hx,r⟩:=hq;refine cj ?_;have ra:=r.a;have rq:=r.q;rw[dz]at ra rq;refine k (aO g') st' rq ?_ ra r.f
  match g',hx,r with
  |[],_,_=>exact j9
  |[u],_,r=>rw[iY,tX,dz];exact(r.s u (by simp)).1
def Ad(O:Ask M A E s κ pr n lt){st:SortSt}(ha:arrOf st=arr pr (fg n))(hk:kindOf st=κ)(hp:d8 st=#[])(hf:m4 st=b_){Q:Unit->SortSt->Prop}
  (k:∀W st',W.Perm (fg n)->Srt lt W->arrOf st'=arr pr W->m4 st'=b_->Q () st'):wpS M A E s sortRuns' Q st:=by
 rw[C3];refine bw (wpS_get ?_);dsimp only;rw[ha,eC,k8];have r0:Rn pr κ lt n [] (fg n) st:=⟨ha,hk,hf,by rw[hp];rfl,λu hu=>absurd hu (by simp),jr _⟩;refine bw (md (iy (λi c st'=>∃g R,c=(b_,(aO g).length)/\i<=(aO g).length/\Rn pr κ lt n g R st') (Q:=λc st'=>∃g,c.1=b_/\Rn pr κ lt n g [] st') (λi c st' h1 h2=>?_) (λc st'=>?_) ⟨[],_,rfl,cv _,r0⟩) λc st' hq=>?_)
 ·rintro⟨g,R,rfl,hi,r⟩;have hl:=r.len;refine FV O _ r (λe=>?_) λg' Z' st2 e r2=>?_
  ·obtain rfl:R=[]:=ow.mp ⋯;exact⟨g,rfl,r⟩
  ·exact⟨g',Z',rfl,⋯,r2⟩
 ·rintro⟨g,R,rfl,hi,r⟩;have hl:=r.len;obtain rfl:R=[]:=ow.mp ⋯;exact⟨g,rfl,r⟩
 ·let⟨g,e,r⟩:=hq;rw[e];exact Js O r k
end
section
variable{prog:ub}{w:ua}{A:t9}{E:f_ 0}{s:tw}{ks vs:ue s_}{κ:kr}
def DW(hl:ks.length=vs.length)(lt:Nat->Nat->Bool)
  (tr:∀i j k,i<vs.length->j<vs.length->k<vs.length->lt j i=false->lt k j=false->lt k i=false) (as:∀i j,i<vs.length->j<vs.length->lt i j=true->lt j i=false)
  (hlt:∀i j,i<vs.length->j<vs.length->∀Q:j_ Bool,Q (lt i j) s->m_ prog w A (keyLt' κ (ks.getD i cx) (ks.getD j cx)) Q (λ_ _=>False) s):
  m_ prog w A ((sortRuns').run (SortSt.mk' κ (ks.toArray.zip vs.toArray) #[] 7 b_)) (λr s'=>s'=s/\∃p:ue Nat,p.Perm (fg vs.length)/\p.Pairwise (λi j=>lt j i=false)/\(arrOf r.2).map (·.2)=(p.map λi=>vs.getD i cx).toArray/\m4 r.2=b_) E s:=by
 have O:Ask (model prog w) A E s κ (λi=>(ks.getD i cx,vs.getD i cx)) vs.length lt:=⟨tr,as,λst i j hk hi hj Q q=>by rw[lt'_eq];refine bw (wpS_get ?_);rw[hk];refine bw (wpS_lift (wpAny_attempt (ji (hlt i j hi hj (λb s'=>b=lt i j/\s'=s) ⟨rfl,rfl⟩) (λb s' hb=>?_) λ_ _ f=>f.elim)));let⟨rfl,rfl⟩:=hb;exact⟨rfl,cj q⟩⟩;have ea:ks.toArray.zip vs.toArray=arr (λi=>(ks.getD i cx,vs.getD i cx)) (fg vs.length):=by
  apply qz.mp;apply k7;intro i;unfold arr;by_cases hi:i<vs.length
  ·have hi':i<ks.length:=⋯;simp[hi,hi',nq]
  ·have hi':¬ i<ks.length:=⋯;simp[hi,hi'];omega
 refine Ad O (st:=SortSt.mk' κ (ks.toArray.zip vs.toArray) #[] 7 b_) ea rfl rfl rfl (Q:=λ_ st'=>∃p:ue Nat,p.Perm (fg vs.length)/\p.Pairwise (λi j=>lt j i=false)/\(arrOf st').map (·.2)=(p.map λi=>vs.getD i cx).toArray/\m4 st'=b_) λW st' w1 w2 w3 w4=>⟨W,w1,w2,?_,w4⟩;rw[w3];unfold arr;simp
end
section
variable{prog:ub}{w:ua}{A:t9}{R:j_ Result}{s:tw}
def HV(ifs:ue uc)(env:Env):Sem Bool:=forIn ifs true λc r=>if r=true then do let ok <-isTrue c env (eval c env);pure (sk ok) else pure (sk r)
theorem C4{elt target iter:uc}{ifs:ue uc}{scope:Scope}{pos:Pos}{it acc:s_}{env:Env}(I:j_ Nat)
  (turn:∀n s,I n s->m_ prog w A (pyNext it) (λr s₁=>match r with
   |none=>R (.ok .next) s₁
   | some v=>m_ prog w A (letOwnedTupleGo target it v) (fun _ s₁'=>m_ prog w A (assign target env v) (fun _ s₂=>
     m_ prog w A (HV ifs env) (λok s₃=>
      if ok=true then m_ prog w A (eval elt env) (λx s₄=>m_ prog w A (call (.builtin "list.append") [acc,x]) (λ_ s₅=>∃m,m<n/\I m s₅) (λ_ _=>False) s₄) (λ_ _=>False) s₃
      else ∃m,m<n/\I m s₃) (λ_ _=>False) s₂) (λ_ _=>False) s₁') (λ_ _=>False) s₁) (λ_ _=>False) s)
  (n:Nat) (h:I n s):
  codeAny (model prog w) A (.compLoop (.ListComp elt [⟨target,iter,ifs,0⟩] scope pos) 0 it acc env) R s:=by
 refine codeAny_loop rfl I (λn s hI=>?_) n h
 show wpAny _ A ((compTurn (.ListComp elt [⟨target,iter,ifs,0⟩] scope pos) 0 it acc env).onRaise (λx=>do noteFrame x env;theTreesLotGoes x)) _ _ s
 refine wpAny_noted ?_;rw[compTurn_list];refine aa (wpAny_standAt (aa (ji (turn n s hI) (λr s₁ h₁=>?_) λ_ _ h'=>h'.elim)));cases r with
 |none=>exact af h₁
 |some v=>
  refine aa (ji h₁ (λ_ s₁' h₁'=>?_) λ_ _ h'=>h'.elim);refine aa (ji h₁' (λ_ s₂ h₂=>aa (ji h₂ (λok s₃ h₃=>?_) λ_ _ h'=>h'.elim)) λ_ _ h'=>h'.elim);cases ok with
  |false=>exact af ⟨rfl,h₃⟩
  |true=>exact aa (aa (ji h₃ (λx s₄ h₄=>aa (ji h₄ (λ_ s₅ h₅=>af (af ⟨rfl,h₅⟩)) λ_ _ h'=>h'.elim)) λ_ _ h'=>h'.elim))
end
def iZ(cells:ue (Str×t7)):ue (Str×p7)->ue (Str×t7)->ue (Str×t7)
 |[],cs=>cs
 |(n,k)::r,cs=>iZ cells r (if(k == gg)=true then(n,(cells.lookup n).getD 0)::cs else cs)
def Ae{scope:Scope}{env:Env}(h:∀y∈scope.names,y.2=gg->∃c,env.cells.lookup y.1=a_ c):closureFor scope env=pure (iZ env.cells scope.names []):=by
 have go:∀(names:ue (Str×p7))(cs:ue (Str×t7)),(∀y∈names,y.2=gg->∃c,env.cells.lookup y.1=a_ c)->
   (forIn names cs λ(x:Str×p7)(r:ue (Str×t7))=>match x with
    |(name,kind)=>if(kind == gg)=true then(do let y <-cellOf env name;pure (sk ((name,y)::r))) else(pure (sk r):Sem _))=(pure (iZ env.cells names cs):Sem _):=by
  intro names
  induction names with
  |nil=>intro cs _;rfl
  |cons y r ih=>
   intro cs hy
   let⟨n,k⟩:=y
   rw[List.forIn_cons]
   have ih':=λcs'=>ih cs' λy hm=>hy y (aj _ hm)
   by_cases hk:(k == gg)=true
   ·let⟨c,hc⟩:=hy (n,k) aw (l_ hk)
    have e1:cellOf env n=pure c:=by unfold cellOf;rw[show env.cells.lookup n=a_ c from hc]
    have e2:iZ env.cells ((n,k)::r) cs=iZ env.cells r ((n,c)::cs):=by
     show iZ env.cells r (if(k == gg)=true then _ else _)=_
     rw[if_pos hk,show env.cells.lookup n=a_ c from hc];rfl
    rw[e2,<-ih' ((n,c)::cs)]
    simp only[hk,if_true,e1,pure_bind]
   ·have e2:iZ env.cells ((n,k)::r) cs=iZ env.cells r cs:=by
     show iZ env.cells r (if(k == gg)=true then _ else _)=_
     rw[if_neg hk]
    rw[e2,<-ih' cs]
    simp only[hk,if_false,pure_bind]
    try rfl
 have:=go scope.names [] h
 unfold closureFor
 simpa using this
theorem vN{cells:ue (Str×t7)}{x:Str}{c:t7}:∀(names:ue (Str×p7))(cs:ue (Str×t7)),(iZ cells names cs).lookup x=a_ c->cs.lookup x=a_ c\/(∃y∈names,y.1=x/\y.2=gg/\c=(cells.lookup x).getD 0)
 |[],_,h=>.inl h
 |(n,k)::r,cs,h=>by
  rcases vN r _ h with h1|⟨y,hy,e⟩
  ·by_cases hk:(k == gg)=true
   ·rw[if_pos hk]at h1;by_cases hx:x=n
    ·subst hx;simp only[df,beq_self_eq_true]at h1;exact .inr ⟨(x,k),aw,rfl,l_ hk,(cy h1).symm⟩
    ·have:(x == n)=false:=by simpa using hx
     simp only[df,this]at h1;exact .inl h1
   ·rw[if_neg hk]at h1;exact .inl h1
  ·exact .inr ⟨y,aj _ hy,e⟩
theorem yD{cells:ue (Str×t7)}{x:Str}:∀(names:ue (Str×p7))(cs:ue (Str×t7)),((∃c,cs.lookup x=a_ c)\/∃y∈names,y.1=x/\y.2=gg)->∃c,(iZ cells names cs).lookup x=a_ c
 |[],_,h=>by
  rcases h with h|⟨y,hy,_⟩
  ·exact h
  ·cases hy
 |(n,k)::r,cs,h=>by
  refine yD r _ ?_;rcases h with⟨c,h⟩|⟨y,hy,e1,e2⟩
  ·left;by_cases hk:(k == gg)=true
   ·rw[if_pos hk];by_cases hx:x=n
    ·subst hx;simp[df]
    ·have:(x == n)=false:=by simpa using hx
     exact⟨c,by simp only[df,this];exact h⟩
   ·rw[if_neg hk];exact⟨c,h⟩
  ·rcases bx.mp hy with rfl|hy
   ·left;have hk:(k == gg)=true:=by simpa using e2
    rw[if_pos hk];have hx:n=x:=e1;subst hx;simp[df]
   ·exact .inr ⟨y,hy,e1,e2⟩
def qF(os:Scope)(oN:ue Str)(sc:Scope)(N:ue Str)(js:ue (uf Nat)):Bool:=
 (match sc.kind with|.function=>true|_=>false)&&sc.names.all (λy=>match y.2 with
  |.cell=>(match sc.names.lookup y.1 with|some .cell=>true|_=>false)
  |_=>true) &&
 sc.names.all (λy=>match y.2 with
  |.local=>(match sc.names.lookup y.1 with|some .local=>true|_=>false)
  |.free=>(match sc.names.lookup y.1,os.names.lookup y.1 with|some .free,a_ .cell=>true|some .free,a_ .free=>true|_,_=>false)
  |_=>true) &&
 js.length == N.length&&(js.zip N).all (λp=>match p.1 with
  |none=>true
  |some j=>(match oN[j]? with|some x=>decide (x=p.2)|none=>false)&&(match sc.names.lookup p.2 with|some .free=>true|_=>false))
structure T4(os:Scope)(oN:ue Str)(sc:Scope)(N:ue Str)(js:ue (uf Nat)):Prop where
 kind:sc.kind=.function
 own:∀y∈sc.names,y.2=.cell->sc.names.lookup y.1=some .cell
 nm:∀y∈sc.names,y.2=.local->sc.names.lookup y.1=some .local
 fr:∀y∈sc.names,y.2=.free->os.names.lookup y.1=some .cell\/os.names.lookup y.1=some .free
 len:js.length=N.length
 cap:∀(i j:Nat),js[i]?=some (some j)->∃x,N[i]?=some x/\oN[j]?=some x/\sc.names.lookup x=some .free
def Jt{os:Scope}{oN:ue Str}{sc:Scope}{N:ue Str}{js:ue (uf Nat)}(h:qF os oN sc N js=true):T4 os oN sc N js:=by
 unfold qF at h;simp only[cg]at h;let⟨⟨⟨⟨h1,h2⟩,h3⟩,h4⟩,h5⟩:=h;refine⟨?_,λy hy e=>?_,λy hy e=>?_,λy hy e=>?_,l_ h4,λi j e=>?_⟩
 ·cases hk:sc.kind <;> rw[hk]at h1 <;> first|rfl|exact absurd h1 cu
 ·have:=ay.mp h2 y hy;rw[e]at this;dsimp only at this;cases hl:sc.names.lookup y.1 with
  |none=>rw[hl]at this;exact absurd this cu
  |some k=>cases k <;> rw[hl]at this <;> first|rfl|exact absurd this cu
 ·have:=ay.mp h3 y hy;rw[e]at this;dsimp only at this;cases hl:sc.names.lookup y.1 with
  |none=>rw[hl]at this;exact absurd this cu
  |some k=>cases k <;> rw[hl]at this <;> first|rfl|exact absurd this cu
 ·have:=ay.mp h3 y hy;rw[e]at this;dsimp only at this;cases hl:sc.names.lookup y.1 with
  |none=>rw[hl]at this;exact absurd this cu
  |some k=>
   rw[hl]at this;cases ho:os.names.lookup y.1 with
   |none=>rw[ho]at this;cases k <;> exact absurd this cu
   |some k'=>rw[ho]at this;cases k <;> cases k' <;> first|exact .inl rfl|exact .inr rfl|exact absurd this cu
 ·have hlen:js.length=N.length:=by simpa using h4
  let⟨hi,ej⟩:=ab.mp e;have hN:i<N.length:=⋯;have hz:(js.zip N)[i]?=a_ (a_ j,N[i]):=by rw[nq];exact⟨e,by simp[hN]⟩
  have:=ay.mp h5 _ (cq hz);simp only[cg]at this;let⟨t1,t2⟩:=this;refine⟨N[i],by simp[hN],?_,?_⟩
  ·cases ho:oN[j]? with
   |none=>rw[ho]at t1;exact absurd t1 cu
   |some x=>rw[ho]at t1;rw[of_decide_eq_true t1]
  ·cases hl:sc.names.lookup N[i] with
   |none=>rw[hl]at t2;exact absurd t2 cu
   |some k=>rw[hl]at t2;cases k <;> first|rfl|exact absurd t2 cu
theorem eF{κ:Type}{x:Str}{k:κ}:∀{l:ue (Str×κ)},l.lookup x=a_ k->(x,k)∈l
 |[],h=>by simp at h
 |(n,v)::r,h=>by
  by_cases hx:x=n
  ·subst hx;simp only[df,beq_self_eq_true]at h;cases h
   exact aw
  ·have:(x == n)=false:=by simpa using hx
   simp only[df,this]at h;exact aj _ (eF h)
theorem nP{sc:Scope}{env:Env}:∀{names:ue (Str×p7)}{x:Str}{k:p7},(names.map λ(n,k)=>if(k == gg&&env.scope.kind == .function&&env.kindOf n == a_ .cell) then(n,sr) else(n,k)).lookup x=a_ k->
  names.lookup x=a_ k\/(k=.cell/\names.lookup x=a_ .free)
 |[],_,_,h=>by simp at h
 |(n,q)::r,x,k,h=>by
  have ih:=@nP sc env r x k;by_cases hc:(q == gg&&env.scope.kind == .function&&env.kindOf n == a_ .cell)=true
  ·simp only[dn]at h;rw[if_pos hc]at h;have hq:q=.free:=by simp only[cg]at hc;simpa using hc.1.1
   by_cases hx:x=n
   ·subst hx;simp only[df,beq_self_eq_true]at h⊢;exact .inr ⟨(cy h).symm,by rw[hq]⟩
   ·have e:(x == n)=false:=by simpa using hx
    simp only[df,e]at h⊢;exact ih h
  ·simp only[dn]at h;rw[if_neg hc]at h;by_cases hx:x=n
   ·subst hx;simp only[df,beq_self_eq_true]at h⊢;exact .inl h
   ·have e:(x == n)=false:=by simpa using hx
    simp only[df,e]at h⊢;exact ih h
theorem rG{env:Env}:∀{names:ue (Str×p7)}{x:Str},names.lookup x=a_ .free->
  (names.map λ(n,k)=>if(k == gg&&env.scope.kind == .function&&env.kindOf n == a_ .cell) then(n,sr) else(n,k)).lookup x=a_ .free\/
  (names.map λ(n,k)=>if(k == gg&&env.scope.kind == .function&&env.kindOf n == a_ .cell) then(n,sr) else(n,k)).lookup x=a_ .cell
 |[],_,h=>by simp at h
 |(n,q)::r,x,h=>by
  have ih:=@rG env r x;by_cases hc:(q == gg&&env.scope.kind == .function&&env.kindOf n == a_ .cell)=true
  ·simp only[dn];rw[if_pos hc];by_cases hx:x=n
   ·subst hx;simp only[df,beq_self_eq_true]
    first|exact .inr rfl|exact .inr trivial
   ·have e:(x == n)=false:=by simpa using hx
    simp only[df,e]at h⊢;exact ih h
  ·simp only[dn];rw[if_neg hc];by_cases hx:x=n
   ·subst hx;simp only[df,beq_self_eq_true]at h⊢;exact .inl h
   ·have e:(x == n)=false:=by simpa using hx
    simp only[df,e]at h⊢;exact ih h
theorem bS:∀(names:ue (Str×p7))(n:Nat)(acc:ue (Str×t7)),iq n names acc=iq n names []++acc
 |[],_,_=>rfl
 |(x,k)::r,n,acc=>by
  unfold iq;split
  ·rw[bS r _ ((x,n)::acc),bS r _ [(x,n)],ak];rfl
  ·exact bS r n acc
theorem mE{x:Str}{c:t7}:∀{names:ue (Str×p7)}{n:Nat},(x,c)∈iq n names []->(x,sr)∈names
 |[],_,h=>by cases h
 |(y,k)::r,n,h=>by
  unfold iq at h;split at h
  ·rename_i hk;rw[bS,ai]at h;rcases h with h|h
   ·exact aj _ (mE h)
   ·have e:=cw.mp h;have ex:x=y:=congrArg jv e;have ek:k=.cell:=by simpa using hk
    rw[ex,ek];exact aw
  ·exact aj _ (mE h)
theorem vO{α:Type}{x:Str}{c:α}:∀{l:ue (Str×α)},(x,c)∈l->∃d,l.lookup x=a_ d
 |(y,d)::r,h=>by
  by_cases e:x=y
  ·subst e;exact⟨d,by simp[df]⟩
  ·have z:(x == y)=false:=by simpa using e
   rcases bx.mp h with q|q
   ·exact absurd (congrArg jv q) e
   ·let⟨d',hd⟩:=vO q;exact⟨d',by simp only[df,z];exact hd⟩
theorem gY{x:Str}:∀{names:ue (Str×p7)}{n:Nat},(x,sr)∈names->∃c,(iq n names []).lookup x=a_ c
 |(y,k)::r,n,h=>by
  have go:∃c,(x,c)∈iq n ((y,k)::r) []:=by
   rcases bx.mp h with q|q
   ·have ex:x=y:=congrArg jv q;have ek:k=.cell:=(congrArg Prod.snd q).symm;refine⟨n,?_⟩;unfold iq;rw[if_pos (by rw[ek];rfl),bS,ex];exact ah _ aw
   ·unfold iq;split
    ·let⟨c,hc⟩:=gY (n:=n+1) q;rw[bS];exact⟨c,b0 _ (mem_of_lookup hc)⟩
    ·let⟨c,hc⟩:=gY (n:=n) q;exact⟨c,mem_of_lookup hc⟩
  let⟨c,hc⟩:=go;exact vO hc
theorem rH{α:Type}{x:Str}:∀{l r:ue (Str×α)},(l++r).lookup x=(l.lookup x).or (r.lookup x)
 |[],_=>by simp
 |(y,d)::l,r=>by
  have ih:=rH (x:=x) (l:=l) (r:=r);cases e:x == y with
  |true=>simp[df,e]
  |false=>simp only[j2,df,e];exact ih
def tZ{M:Model}{A:t9}{E:f_ 0}{s:tw}{scope:Scope}{globals:t7}{closure:ue (Str×t7)}{qual:Str}{func:uf t7}{code:s_}{outer:Env}{builtins:t7}{Q:j_ Env}
  (hQ:Q (newEnv scope (e_ s) globals (iq (s.heap.objs.size+1) scope.names closure) qual func code (a_ outer) builtins) {s with heap:=pushCells (s.heap.push {cls:=.type "dict",data:=.dict #[]}) scope.names}):
  wpAny M A (newFunctionEnv scope globals closure [] qual func code (a_ outer) builtins) Q E s:=by
 simp only[newFunctionEnv,sj,if_true];refine aa (wpAny_alloc ?_);refine aa (wpAny_layCells _ (λname kind cells=>by cases hkc:kind == sr <;> simp[hkc]) _ _ _ _ ?_);rw[show({s with heap:=s.heap.push {cls:=.type "dict",data:=.dict #[]} }:tw).heap.objs.size=(e_ s)+1 from i4 ..]
 rw[List.forIn_nil];exact aa (af (af hQ))
def Cx.comp(X:Cx)(sc:Scope)(N:ue Str)(C:t7)(fp:ue t7)(s₀:tw)(H₀:Hp):Cx:=
 { X with N:=N,s₀:=s₀,H₀:=H₀,env:=compEnvC sc (iq (C+1) sc.names (iZ X.env.cells sc.names [])) C X.env,outer:=X.stack,ex:=fp,fn:=λx=>(match sc.names.lookup x with|some .cell=>true|_=>false),pn:=[],xe:=λ_ _=>False}
def Lq:St->Nat->uf V
 |[],_=>b_
 |x::_,0=>x
 |_::r,n+1=>Lq r n
theorem DX:∀{σ:St}{i:Nat}{v:V},Lq σ i=a_ v->σ[i]?=a_ (a_ v)
 |[],_,_,h=>by cases h
 |x::_,0,v,h=>by have h':x=a_ v:=h;simp[h']
 |_::r,n+1,v,h=>by rw[fu];exact DX (σ:=r) (i:=n) h
def mF(js:ue (uf Nat))(σ:St):St:=js.map λo=>match o with
 |none=>b_
 |some j=>Lq σ j
def P7{js:ue (uf Nat)}{σ:St}{i:Nat}{v:V}(h:(mF js σ)[i]?=a_ (a_ v)):∃j,js[i]?=a_ (a_ j)/\σ[j]?=a_ (a_ v):=by
 unfold mF at h;rw[ar]at h;cases e:js[i]? with
 |none=>rw[e]at h;cases h
 |some o=>
  rw[e]at h;cases o with
  |none=>cases h
  |some j=>exact⟨j,rfl,DX (cy h)⟩
def PTs(X:Cx)(ifs:ue uc)(t:TT):Prop:=
 ∀(pins:g_ 0)(s:tw)(σ:St)(H:Hp)(Q:Bool->Hp->Prop),Inv X pins σ H s->t σ H Q->wpAny (h_ X) X.A (HV ifs X.env) (TP X pins σ Q) X.xe s
def Vn:TT:=λ_ H Q=>Q true H
def P8:PTs X [] Vn:=λ_ _ _ H _ I h=>wpAny_tests_nil ⟨H,I,h⟩
def P9(h:PT X c t):PTs X [c] t:=λpins s σ H Q I q=>wpAny_tests_one (h pins s σ H Q I q)
def RJ(js:ue (uf Nat))(g:TG)(tt:TT)(te:TE)(σ:St)(acc:t7)(x:V)(H:Hp)(N:Hp->Prop):Prop:=g x (mF js σ) H λσ2 H4=>tt σ2 H4 λb H5=>if b=true then te σ2 H5 λv H6=>∃ys,H6 acc=a_ (.lst ys)/\ys.length<bp/\N (upd H6 acc (.lst (ys++[v]))) else N H5
def HW(js:ue (uf Nat))(wi:TI)(g:TG)(tt:TT)(te:TE):TE:=λσ H Q=>wi σ H λJ H1=>∀acc,H1 acc=b_->
 ∃W:Nat->Nat->Hp->Prop,(∃m,W 0 m (upd H1 acc (.lst [])))/\∀i m H2,W i m H2->
  (J.stop i H2/\Q (.ref acc) H2)\/(J.go i H2/\∃N:Hp->Prop,(∀H',N H'->∃m',m'<m/\W (i+1) m' H')/\∀x H3,J.yld i H2 x H3->RJ js g tt te σ acc x H3 N)
section
variable{X:Cx}{elt iter tg:uc}{ifs:ue uc}{sc:Scope}{pos:Pos}{os:Scope}{oN N:ue Str}{js:ue (uf Nat)}{wi:TI}{g:TG}{tt:TT}{te:TE}
structure Off(X:Cx)(pins:g_ 0)(H:Hp)(C:t7)(s:tw):Prop where
 ns:∃m,s.heap.Ns C m
 none:H C=none
 loc:C≠X.env.locals
 new:X.s₀.heap.objs.size<=C
 cells:∀x c,X.env.cells.lookup x=some c->c≠C
 pins:∀p∈X.pn++pins,p.1≠C
theorem Off.go{pins:g_ 0}{σ:St}{H:Hp}{C:t7}{s:tw}{h':t_}(o:Off X pins H C s)(I:Inv X pins σ H s)(hs:mx C s.heap h'):Inv X pins σ H {s with heap:=h'}:=I.turned (t':=s.toks) (λb ob hb e=>(hs.2 b hb).trans e) o.none o.loc (.inr o.new) o.cells o.pins
def AY{use:uf (s_->Sem Unit)}{Q0:f_ 0}(hc:X.calm=true)(hes:X.env.scope=os)(heN:X.N=oN)(ok:qF os oN sc N js=true)(hi:PI X tg iter wi)
  (hg:∀C fp s₀ H₀,PG (X.comp sc N C fp s₀ H₀) tg g) (ht:∀C fp s₀ H₀,PTs (X.comp sc N C fp s₀ H₀) ifs tt) (he:∀C fp s₀ H₀,PE (X.comp sc N C fp s₀ H₀) elt te)
  {pins:g_ 0} {s:tw} {σ:St} {H:Hp} {Q:VK} (I:Inv X pins σ H s) (h:HW js wi g tt te σ H Q)
  (hfin:∀acc C s6 H6,Inv X pins σ H6 s6->Off X pins H6 C s6->Q (.ref acc) H6->compPost (h_ X) X.A X.xe use Q0 (.ref acc) C (.ok .next) s6)
  (hs:∀x,k5 iter X.env x=pure x:=by intro _;rfl):
  wpAny (h_ X) X.A (comprehension (.ListComp elt [⟨tg,iter,ifs,0⟩] sc pos) sc X.env (firstIterPos [⟨tg,iter,ifs,0⟩] pos) (newList []) false (eval iter X.env) use) Q0 X.xe s:=by
 have S:=Jt ok;subst hes heN;have hcl:∀y∈sc.names,y.2=gg->∃c,X.env.cells.lookup y.1=a_ c:=λy hy e=>I.ok.has y.1 (S.fr y hy e);have clsub:∀x c,(iZ X.env.cells sc.names []).lookup x=a_ c->X.env.cells.lookup x=a_ c:=λx c e=>by
  rcases vN _ _ e with z|⟨y,hy,e1,e2,e3⟩
  ·cases z
  ·let⟨d,hd⟩:=hcl y hy e2;rw[e1]at hd;rw[hd]at e3;rw[hd,e3];rfl
 refine wpAny_comprehension_free (use:=use) rfl hs (Ae hcl) S.kind S.nm (thn (hi pins s σ H _ I h) λv s1 h1=>thn h1 λitv s2 h2=>?_);let⟨it,fp,tn,J,H2,e,I2,T,st2,f2,q⟩:=h2;subst e;let⟨W,⟨m0,w0⟩,turn⟩:=q (e_ s2) I2.fresh;refine iw (tZ ?_);have I3:Inv X pins σ (upd H2 (e_ s2) (.lst [])) {s2 with heap:=s2.heap.push {cls:=.type "list",data:=.seq ([]:ue s_).toArray},toks:=s2.toks}:=I2.lnew (its:=[]) (ys:=[]) .nil (cv _);generalize hH3:upd H2 (e_ s2) (HO.lst [])=H3 at w0 I3;generalize hs3:({s2 with heap:=s2.heap.push {cls:=.type "list",data:=.seq ([]:ue s_).toArray},toks:=s2.toks}:tw)=s3 at I3;have es3:({s2 with heap:=s2.heap.push {cls:=.type "list",dict:=b_,data:=.seq ([]:ue s_).toArray} }:tw)=s3:=hs3;have eh3:s2.heap.push {cls:=.type "list",dict:=b_,data:=.seq ([]:ue s_).toArray}=s3.heap:=by rw[<-es3]
 (try rw[eh3])
 have hC:∀b o,s3.heap.get? b=a_ o->b≠(e_ s3):=λb o e=>bu (bf e);have old:∀b o,s3.heap.get? b=a_ o->(pushCells (s3.heap.push {cls:=.type "dict",data:=.dict #[]}) sc.names).get? b=a_ o:=λb o e=>pushCells_keeps _ _ b o (ae _ e);have hns₁:(pushCells (s3.heap.push {cls:=.type "dict",data:=.dict #[]}) sc.names).Ns (e_ s3) (λ_=>b_):=(Heap.Ns.new s3.heap (.type "dict")).keeps (pushCells_keeps _ _);have cok:=cellsFrom_ok sc.names (s3.heap.push {cls:=.type "dict",data:=.dict #[]}) (s3.heap.objs.size+1) [] ⟨λ_ _ hm=>(nomatch hm),j9⟩ (by rw[i4];exact bq _);rw[i4]at cok;generalize pushCells (s3.heap.push {cls:=.type "dict",data:=.dict #[]}) sc.names=h₁ at old hns₁ cok⊢;have cl1:∀{x c},(iq (s3.heap.objs.size+1) sc.names (iZ X.env.cells sc.names [])).lookup x=a_ c->((x,c)∈iq (s3.heap.objs.size+1) sc.names []/\h₁.IsCell c b_/\(e_ s3)+1<=c)\/(X.env.cells.lookup x=a_ c/\c<(e_ s3)):=λ{x c} e=>by
  rw[bS,rH]at e;cases eo:(iq (s3.heap.objs.size+1) sc.names []).lookup x with
  |some d=>
   rw[eo]at e;cases e
   have:=mem_of_lookup eo;exact .inl ⟨this,cok.empty x c this⟩
  |none=>rw[eo]at e;have e:=clsub x c e;let⟨v,z⟩:=I3.cell x c e;exact .inr ⟨e,z.lt⟩
 have cl2:∀{x c},sc.names.lookup x=a_ .free->(iZ X.env.cells sc.names []).lookup x=a_ c->(iq (s3.heap.objs.size+1) sc.names (iZ X.env.cells sc.names [])).lookup x=a_ c:=λ{x c} hf e=>by
  rw[bS,rH];cases eo:(iq (s3.heap.objs.size+1) sc.names []).lookup x with
  |some d=>have:=S.own _ (mE (mem_of_lookup eo)) rfl;rw[hf]at this;cases this
  |none=>exact e
 have st3:tn 0 s3.heap:=T.keep 0 _ _ st2 λb hb o e=>by rw[<-eh3];exact ae _ e
 have fobj:∀b∈fp,∃o,s3.heap.get? b=a_ o/\∀v,o.data≠.cell v:=T.obj 0 _ st3;have f3:∀b∈fp,Dz X pins H3 b:=λb hb=>by let⟨o,ho,_⟩:=T.obj 0 _ st2 b hb;refine⟨?_,(f2 b hb).2⟩;rw[<-hH3,aV (bu (bf ho))];exact(f2 b hb).1
 -- the block's context
 have Xok:(X.comp sc N (e_ s3) fp s3 H3).Ok:=by
  refine⟨I.ok.mod,S.kind,I.ok.glob,I.ok.blt,bq _,λx y c e1 e2=>?_,λx hx=>?_,λx c z e=>?_,I.ok.hd,I.ok.frames,.inl rfl,λb hb=>?_,I3.bs,
   fv I.ok.bsz I3.sz,λb o e hb=>?_,λb hb hf=>?_,I3.stack,I3.stkFree⟩
  ·rcases cl1 e1 with⟨m1,_,g1⟩|⟨z1,g1⟩ <;> rcases cl1 e2 with⟨m2,_,g2⟩|⟨z2,g2⟩
   ·exact name_of_addr cok.apart m1 m2
   ·exact absurd (c9 g2 (Nat.le_of_succ_le g1)) (i6 _)
   ·exact absurd (c9 g1 (Nat.le_of_succ_le g2)) (i6 _)
   ·exact I.ok.inj x y c z1 z2
  ·have fr:sc.names.lookup x=a_ .free->∃c,(iq (s3.heap.objs.size+1) sc.names (iZ X.env.cells sc.names [])).lookup x=a_ c:=λhf=>
    let ⟨c,hc⟩:=yD (cells:=X.env.cells) (x:=x) sc.names [] (.inr ⟨_,eF hf,rfl,rfl⟩)
    ⟨c,cl2 hf hc⟩
   have fin:∀{k},(relabel sc X.env).names.lookup x=a_ k->(k=.cell\/k=.free)->∃c,(iq (s3.heap.objs.size+1) sc.names (iZ X.env.cells sc.names [])).lookup x=a_ c:=λ{k} e hk=>by
    rcases nP (sc:=sc) e with z|⟨_,z⟩
    ·rcases hk with rfl|rfl
     ·let⟨c,hc⟩:=gY (n:=(e_ s3)+1) (eF z);exact⟨c,by rw[bS,rH,hc];rfl⟩
     ·exact fr z
    ·exact fr z
   rcases hx with hx|hx
   ·exact fin hx (.inl rfl)
   ·exact fin hx (.inr rfl)
  ·have z:sc.names.lookup x=a_ .cell:=by
    have z:(match sc.names.lookup x with|some .cell=>true|_=>false)=true:=z
    split at z
    ·assumption
    ·cases z
   have e:(iq (s3.heap.objs.size+1) sc.names (iZ X.env.cells sc.names [])).lookup x=a_ c:=e;let⟨d,hd⟩:=gY (n:=(e_ s3)+1) (eF z);rw[bS,rH,hd]at e;cases e
   exact Nat.le_of_succ_le (cok.empty x c (mem_of_lookup hd)).2
  ·let⟨o,ho,_⟩:=fobj b hb;refine⟨hC b o ho,λx c e=>?_⟩;rcases cl1 e with⟨_,_,g1⟩|⟨z1,_⟩
   ·exact ja (c9 (bf ho) (Nat.le_of_succ_le g1))
   ·exact(f3 b hb).2.2.2.2.1 x c z1
  ·rcases(f3 b hb).2.2.2.1 with z|z
   ·exact I.ok.noex b o e z
   ·exact absurd (c9 (bf e) (fv I.ok.bsz z)) (i6 _)
  ·rcases bx.mp (I3.stkSub b hf) with z|z
   ·exact(f3 b hb).2.1 z
   ·exact(f3 b hb).2.2.1 z
 -- what the block takes from around it
 have capt:∀(i:Nat)(x:Str)(v:V),N[i]?=a_ x->(mF js σ)[i]?=a_ (a_ v)->∃u c o,RelV v u/\((compEnvC sc (iq (s3.heap.objs.size+1) sc.names (iZ X.env.cells sc.names [])) (e_ s3) X.env).kindOf x=a_ .cell\/(compEnvC sc (iq (s3.heap.objs.size+1) sc.names (iZ X.env.cells sc.names [])) (e_ s3) X.env).kindOf x=a_ .free)/\
   (iq (s3.heap.objs.size+1) sc.names (iZ X.env.cells sc.names [])).lookup x=a_ c/\s3.heap.get? c=a_ o/\o.data=.cell (a_ u)/\H3 c=b_/\c∉fp:=by
  intro i x v hN hv;let⟨j,hj,hσ⟩:=P7 hv;let⟨x',hx',ho,hf⟩:=S.cap i j hj;rw[hN]at hx';cases hx';let⟨m,hn,hl⟩:=I3.loc;have hvis:Vis X.env.scope x:=by
   rcases S.fr _ (eF hf) rfl with z|z
   ·exact .inr (.inl z)
   ·exact .inr (.inr z)
  let⟨u,r,l⟩:=hl j x v ho hσ hvis;let⟨c,hcl'⟩:=yD (cells:=X.env.cells) (x:=x) sc.names [] (.inr ⟨_,eF hf,rfl,rfl⟩);have hcx:=clsub x c hcl';have hcell:s3.heap.IsCell c (a_ u):=by
   rcases l with⟨k,_⟩|⟨_,c',e,z⟩
   ·exfalso;rcases S.fr _ (eF hf) rfl with z|z
    ·have k':X.env.scope.names.lookup x=a_ .local:=k;rw[z]at k';cases k'
    ·have k':X.env.scope.names.lookup x=a_ .local:=k;rw[z]at k';cases k'
   ·rw[hcx]at e;cases e;exact z
  let⟨o,ho',hd⟩:=hcell;refine⟨u,c,o,r,?_,cl2 hf hcl',ho',hd,I3.freeC x c hcx,λhb=>(f3 c hb).2.2.2.2.1 x c hcx rfl⟩;exact(rG (env:=X.env) hf).symm
 -- at any state of the block,its names as at its start
 have recap:∀{pins':g_ 0}{σ8:St}{H8:Hp}{s8:tw},Inv (X.comp sc N (e_ s3) fp s3 H3) pins' σ8 H8 s8->Inv (X.comp sc N (e_ s3) fp s3 H3) [] (mF js σ) H8 s8:=λ{pins' σ8 H8 s8} I8=>by
  refine⟨I8.ok,I8.os,I8.bare,I8.base,?_,I8.cell,I8.free,I8.freeC,λp hp=>by simp[Cx.comp]at hp,I8.hok,?_⟩
  ·let⟨m,hn,_⟩:=I8.loc;refine⟨m,hn,λi x v hN hv _=>?_⟩;let⟨u,c,o,r,k,hl,ho,hd,hn3,hnf⟩:=capt i x v hN hv;refine⟨u,r,.inr ⟨k,c,hl,?_⟩⟩;let⟨sl,e⟩:=I8.base.any ho hn3 hnf;exact⟨_,e,hd⟩
  ·show(mF js σ).length=N.length
   unfold mF;rw[aq,S.len]
 have I4:Inv (X.comp sc N (e_ s3) fp s3 H3) [] (mF js σ) H3 {s3 with heap:=h₁}:=by
  refine⟨Xok,rfl,I3.bare,Un.kept old,⟨_,hns₁,λi x v hN hv _=>?_⟩,λx c e=>?_,I3.fresh,λx c e=>?_,λp hp=>by simp[Cx.comp]at hp,I3.hok.kept old,?_⟩
  ·let⟨u,c,o,r,k,hl,ho,hd,_,_⟩:=capt i x v hN hv;exact⟨u,r,.inr ⟨k,c,hl,o,old c o ho,hd⟩⟩
  ·rcases cl1 e with⟨_,g1,_⟩|⟨z1,_⟩
   ·exact⟨_,g1⟩
   ·let⟨v,o,ho,hd⟩:=I3.cell x c z1;exact⟨v,o,old c o ho,hd⟩
  ·rcases cl1 e with⟨_,_,g1⟩|⟨z1,_⟩
   ·exact I3.hok.fresh ⋯
   ·exact I3.freeC x c z1
  ·show(mF js σ).length=N.length
   unfold mF;rw[aq,S.len]
 have st4:tn 0 h₁:=T.keep 0 _ _ st3 λb hb o e=>old b o e;have fpok:∀{H':Hp},(∀b∈fp,H' b=b_)->∀b∈fp,Dz (X.comp sc N (e_ s3) fp s3 H3) [] H' b:=λ{H'} hn b hb=>⟨hn b hb,(Xok.exf b hb).1,Xok.exfs b hb,.inl hb,(Xok.exf b hb).2,λp hp=>by simp[Cx.comp]at hp⟩;have fin:∀(s6:tw)(H6:Hp),Inv (X.comp sc N (e_ s3) fp s3 H3) [] (mF js σ) H6 s6->Q (.ref (e_ s2)) H6->compPost (h_ X) X.A X.xe use Q0 (.ref (e_ s2)) (e_ s3) (.ok .next) s6:=λs6 H6 I6 q6=>by
  have I7:Inv X pins σ H6 s6:=I3.call' (ch:=fp) I6.os I6.base I6.hok I6.bare λb hb=>⟨(f3 b hb).2.2.2.1,(f3 b hb).2.1,(f3 b hb).2.2.2.2.1,(f3 b hb).2.2.2.2.2⟩;refine hfin _ _ _ _ I7 ⟨let ⟨m,hn,_⟩:=I6.loc;⟨m,hn⟩,I6.free,ja I3.lt,I3.sz,λx c e=>?_,λp hp=>?_⟩ q6
  ·let⟨v,z⟩:=I3.cell x c e;exact bu z.lt
  ·exact bu (bf (I3.pin p hp).1)
 have loop:codeAny (h_ X) X.A (.compLoop (.ListComp elt [⟨tg,iter,ifs,0⟩] sc pos) 0 (.ref it) (.ref (e_ s2)) (compEnvC sc (iq (s3.heap.objs.size+1) sc.names (iZ X.env.cells sc.names [])) (e_ s3) X.env))
   (compPost (h_ X) X.A X.xe use Q0 (.ref (e_ s2)) (e_ s3)) {s3 with heap:=h₁}:=by
  refine C4 (λn s'=>∃i H',Inv (X.comp sc N (e_ s3) fp s3 H3) [] (mF js σ) H' s'/\tn i s'.heap/\(∀b∈fp,H' b=b_)/\W i n H') ?_ m0 ⟨0,H3,I4,st4,λb hb=>(f3 b hb).1,w0⟩;rintro n s5 ⟨i,H5,I5,st5,fr5,w5⟩;rcases turn i n H5 w5 with⟨stop,qn⟩|⟨go,Nn,hN,step⟩
  ·refine thn (T.done (X.comp sc N (e_ s3) fp s3 H3) rfl rfl rfl hc i [] s5 (mF js σ) H5 (λ_ _=>False) I5 (fpok fr5) st5 stop) λr s6 ⟨hr,I6⟩=>?_;subst hr;exact fin s6 H5 I6 qn
  ·refine thn (T.item (X.comp sc N (e_ s3) fp s3 H3) rfl rfl rfl hc i [] s5 (mF js σ) H5 (λ_ _=>False) I5 (fpok fr5) st5 go) λr s6 ⟨u,hr,h6⟩=>?_;subst hr;refine thn h6 λ_ s7 hz=>?_;let⟨x,H7,I7,r7,y7,st7,fr7⟩:=hz;have I7':=I7.pinned (fpok fr7) (T.obj _ _ st7);refine thn (hg _ _ _ _ _ s7 _ H7 x u _ I7' r7 (step x H7 y7)) λ_ s8 ⟨σ8,H8,I8,q8⟩=>?_;refine thn (ht _ _ _ _ _ s8 σ8 H8 _ I8 q8) λb s9 ⟨H9,I9,q9⟩=>?_;have again:∀{σ':St}{H':Hp}{s':tw},Inv (X.comp sc N (e_ s3) fp s3 H3) ([]++xQ fp s7.heap) σ' H' s'->Nn H'->∃m,m<n/\∃i H',Inv (X.comp sc N (e_ s3) fp s3 H3) [] (mF js σ) H' s'/\tn i s'.heap/\(∀b∈fp,H' b=b_)/\W i m H':=λ{σ' H' s'} I' n'=>by let⟨m',hm,w'⟩:=hN H' n';refine⟨m',hm,i+1,H',recap I',T.keep _ _ _ st7 λb hb o e=>(I'.pin (b,o) (ah _ (ah _ (lY hb e)))).1,λb hb=>?_,w'⟩;let⟨o,e,d⟩:=T.obj _ _ st7 b hb;exact(I'.pin (b,o) (ah _ (ah _ (lY hb e)))).2.1
   cases b with
   |false=>exact again I9 q9
   |true=>refine thn (he _ _ _ _ _ s9 σ8 H9 _ I9 q9) λu' s10 ⟨v,H10,I10,rv,ys,hacc,hz,n10⟩=>?_;refine thn (AR (X:=X.comp sc N (e_ s3) fp s3 H3) _ s10 σ8 H10 (.ref (e_ s2)) [v] (.ref (e_ s2)) [u'] (λ_ H'=>Nn H') I10 rfl (.cons rv .nil) ⟨_,ys,v,rfl,rfl,hacc,hz,n10⟩) λ_ s11 ⟨_,H11,I11,_,n11⟩=>?_;exact again I11 n11
 exact codeAny_compStart_list loop (T.self X.A 0 _ _ _ st4 loop)
def Pa(hc:X.calm=true)(hes:X.env.scope=os)(heN:X.N=oN)(ok:qF os oN sc N js=true)(hi:PI X tg iter wi)
  (hg:∀C fp s₀ H₀,PG (X.comp sc N C fp s₀ H₀) tg g) (ht:∀C fp s₀ H₀,PTs (X.comp sc N C fp s₀ H₀) ifs tt) (he:∀C fp s₀ H₀,PE (X.comp sc N C fp s₀ H₀) elt te)
  (hs:∀x,k5 iter X.env x=pure x:=by intro _;rfl):PE X (.ListComp elt [⟨tg,iter,ifs,0⟩] sc pos) (HW js wi g tt te):=by
 intro pins s σ H Q I h;rw[eval_ListComp];refine AY (use:=b_) hc hes heN ok hi hg ht he I h (λacc C s6 H6 I6 o q=>?_) hs;exact⟨o.ns.choose,o.ns.choose_spec,λh' hs'=>⟨.ref acc,H6,o.go I6 hs',rfl,q⟩⟩
def FW{spos:Pos}(hN:X.N.Nodup)(hx':X.N[i]?=a_ x)(hloc:X.env.scope.names.lookup x=a_ .local)(hc:X.calm=true)(hes:X.env.scope=os)(heN:X.N=oN)(ok:qF os oN sc N js=true)(hi:PI X tg iter wi)(hg:∀C fp s₀ H₀,PG (X.comp sc N C fp s₀ H₀) tg g)(ht:∀C fp s₀ H₀,PTs (X.comp sc N C fp s₀ H₀) ifs tt)(he:∀C fp s₀ H₀,PE (X.comp sc N C fp s₀ H₀) elt te)(hsw:swapsWith (.ListComp elt [⟨tg,iter,ifs,0⟩] sc pos) (a_ (.Name x pos')) spos.line X.env=pure true:=by rfl)(hs:∀x,k5 iter X.env x=pure x:=by intro _;rfl):PS X (.Assign [.Name x pos'] (.ListComp elt [⟨tg,iter,ifs,0⟩] sc pos) spos) (Sq (HW js wi g tt te) (KO i)):=by
 intro pins s σ H D I h
 rw[exec_Assign_Name_used _ _ _ _ hsw]
 refine aa (wpAny_standAt (aa ?_))
 show wpAny _ X.A (do let _ <-comprehension (.ListComp elt [⟨tg,iter,ifs,0⟩] sc pos) sc X.env _ (newList []) false (eval iter X.env) (a_ (assign (.Name x pos') X.env))) _ _ s
 refine aa (thn (AY (use:=a_ (assign (.Name x pos') X.env)) (Q0:=λ_ s'=>SP X pins D .next s') hc hes heN ok hi hg ht he I h (λacc C s6 H6 I6 o q=>?_) hs) λ_ s' hq=>af (af hq))
 show wpAny _ X.A (assign (.Name x pos') X.env (.ref acc)) _ _ _
 refine wpAny_assign_Name (AJ I6 hN hx' (.inl hloc) (v:=.ref acc) rfl (λs7 I7 ⟨a,hs7,ha⟩=>?_) (.inr hloc))
 have hCa:C≠a:=by
  rcases ha with rfl|ha
  ·exact o.loc
  ·exact λe=>o.cells x a ha e.symm
 let⟨m,hn⟩:=o.ns
 have o7:Off X pins H6 C s7:=⟨⟨m,hn.sameBut hs7 hCa⟩,o.none,o.loc,o.new,o.cells,o.pins⟩
 exact⟨m,hn.sameBut hs7 hCa,λh' hs'=>⟨_,H6,o7.go I7 hs',q⟩⟩
end
section
variable{X:Cx}
def Vo:V->uf Int->uf Int->Hp->VK->Prop:=λx lo hi H Q=>∃z,x=.str z/\z.length<=bp/\Q (.str (Txt.slice z lo hi)) H
def part_of(h:IsPart v o):∃p:uf (Int×Tok),v=partValue p/\p.map (·.1)=o:=by
 cases h with
 |none=>exact⟨b_,rfl,rfl⟩
 |int i t=>exact⟨a_ (i,t),rfl,rfl⟩
def T5:SlR X Vo:=by
 intro pins s σ H x v vl vu lo hi sl Q I rx hs pl pu h;let⟨z,rfl,hz,q⟩:=h;let⟨t,rfl⟩:=rx;let⟨l,rfl,rfl⟩:=part_of pl;let⟨u,rfl,rfl⟩:=part_of pu;let⟨o,ho,hc,hd⟩:=hs;refine⟨"str",_,PySem.F.slot_str_getitem.lookup,typeIs_str s z t,?_⟩;refine wpAny_getItem_str_slice (l:=l) (u:=u) (st:=b_) ⟨o,ho,hc,hd⟩ rfl ?_;have e:sliceMade z t l u b_=if((1:Int) == 1&&(qg (l.map (·.1)) (u.map (·.1)) 1 z.length).length == z.length)=true then Made.val (.str z t) else Made.str ⟨((qg (l.map (·.1)) (u.map (·.1)) 1 z.length).filterMap (z.cps[·]?)).toArray⟩:=rfl;have hle:=Txt.slice_le z (l.map (·.1)) (u.map (·.1));unfold Txt.slice at q hle;rw[e];by_cases hc':((1:Int) == 1&&(qg (l.map (·.1)) (u.map (·.1)) 1 z.length).length == z.length)=true
 ·rw[if_pos hc']at q⊢;exact⟨.str z,H,I,⟨t,rfl⟩,q⟩
 ·rw[if_neg hc']at q hle⊢;exact⟨fv hle hz,.str _,H,I.tok _,⟨_,rfl⟩,q⟩
theorem yE:∀{ss:ue Str}{us:ue s_},aR (ss.map V.str) us->StrsAre us ss
 |[],_,r=>by cases r;exact .nil
 |x::ss,_,r=>by
  cases r with
  |cons h t=>let⟨tk,rfl⟩:=h;exact .cons x tk (yE t)
theorem AZ:∀{us:ue s_}{ss:ue Str},StrsAre us ss->aR (ss.map V.str) us
 |_,_,.nil=>.nil
 |_,_,.cons x t h=>.cons ⟨t,rfl⟩ (AZ h)
def uA:iH X (.builtin "sorted") (λxs H Q=>∃p ss,xs=[.ref p]/\SqL X.K H p (ss.map V.str)/\ss.length<64/\
  ∀l ss',H l=b_->ss'.Perm ss->sortedS ss'=true->Q (.ref l) (upd H l (.lst (ss'.map V.str)))):=by
 intro pins s σ H xs us Q I r h;let⟨p,ss,rfl,hq,h64,q⟩:=h;let⟨u,rfl,ru⟩:=vals1 r;cases ru
 let⟨its,rv,pl,hz⟩:=I.list hq;have hlen:=rv.length;rw[aq]at hlen;refine sorted_strs pl.isList (yE rv) ⋯ λout ss' a1 a2 a3=>?_;let⟨e,he⟩:=sortedAll_at s.heap its out;refine⟨.ref (s.heap.objs.size+1),_,I.laid (t':=s.toks) (o:=.lst (ss'.map V.str)) (λb ob h=>sortedAll_old h) (Nat.le_succ _) ?_,rfl,q _ ss' (I.hok.fresh (Nat.le_succ _)) a2 a3⟩;refine⟨?_,out.toList,e,AZ a1,by rw[he]⟩;rw[aq,a2.length_eq];exact oi (qe h64 nofun)
def gT{es:ue uc}{k:Nat}{t:TGs}{n:Nat}{pos:Pos}(K:ag)(hK:X.K=K)(hc:X.calm=true)(h:PGs X es t)
  (hn:(mn es X.env).length=n:=by rfl) (hst:(mn es X.env).findIdx? (·.1)=b_:=by rfl):PG X (.Tuple es k pos) (V2 K n t):=by subst hK;exact So hc h hn hst
end
section
variable{X:Cx}{e a b:uc}{t t' ta tb:TE}{pos:Pos}
theorem PE.imp(h:PE X e t)(i:∀σ H Q,t' σ H Q->t σ H Q):PE X e t':=λpins s σ H Q I q=>h pins s σ H Q I (i σ H Q q)
theorem PT.imp{t t':TT}(h:PT X e t)(i:∀σ H Q,t' σ H Q->t σ H Q):PT X e t':=λpins s σ H Q I q=>h pins s σ H Q I (i σ H Q q)
theorem OpR.imp{f:s_->s_->Sem s_}(h:OpR X f r)(i:∀x y H Q,r' x y H Q->r x y H Q):OpR X f r':=λpins s σ H x y v u Q I rx ry q=>h pins s σ H x y v u Q I rx ry (i x y H Q q)
theorem iH.imp{r r':ue V->Hp->VK->Prop}(h:iH X f r)(i:∀xs H Q,r' xs H Q->r xs H Q):iH X f r':=λpins s σ H xs us Q I rx q=>h pins s σ H xs us Q I rx (i xs H Q q)
def Vp(K:ag):R2:=λx y H Q=>match x,y with
 |.int i,.int j=>Q (.int (i+j)) H
 |.str i,.str j=>i.length+j.length<=bp/\Q (.str (i++j)) H
 |.ref _,.ref _=>Vf x y H Q\/RC K x y H Q
 |_,_=>False
def Pb(K:ag)(hK:X.K=K):OpR X (jc .Add) (Vp K):=by
 subst hK;refine(Sx.or (FA.or (SX.or OS))).imp λx y H Q h=>?_;cases x <;> cases y <;> first
  |exact .inl ⟨_,_,rfl,rfl,h⟩
  |exact .inr (.inl ⟨_,_,rfl,rfl,h.1,h.2⟩)
  |exact .inr (.inr h)
  |exact h.elim
def B0(C:Int->Int->Prop)(f:Int->Int->Int):R2:=λx y H Q=>match x,y with
 |.int i,.int j=>C i j/\Q (.int (f i j)) H
 |_,_=>False
def Lr(f:Int->Int->Int):R2:=λx y H Q=>match x,y with
 |.int i,.int j=>Q (.int (f i j)) H
 |_,_=>False
def xF{f:s_->s_->Sem s_}{C:Int->Int->Prop}{g:Int->Int->Int}(h:OpR X f (rI C λi j=>.int (g i j))):OpR X f (B0 C g):=h.imp λx y H Q q=>by cases x <;> cases y <;> first|exact⟨_,_,rfl,rfl,q.1,q.2⟩|exact q.elim
def Ls{f:s_->s_->Sem s_}{g:Int->Int->Int}(h:OpR X f (rI0 λi j=>.int (g i j))):OpR X f (Lr g):=h.imp λx y H Q q=>by cases x <;> cases y <;> first|exact⟨_,_,rfl,rfl,q⟩|exact q.elim
def Pc:OpR X (jc .Sub) (Lr λi j=>i-j):=Ls Sy
def Pd:OpR X (jc .Mult) (B0 DB λi j=>i*j):=xF Sz
def Pe:OpR X (jc .FloorDiv) (B0 KU λi j=>i/j):=xF OK
def Pf:OpR X (jc .Mod) (B0 (λ_ j=>0<j) λi j=>i%j):=xF SB
def Pg:OpR X (jc .Pow) (B0 Jb λi j=>i ^ j.toNat):=xF SC
def HX(f:Int->Int->Bool)(g:ue Nat->ue Nat->Bool):R2:=λx y H Q=>match x,y with
 |.int i,.int j=>Q (.bl (f i j)) H
 |.str i,.str j=>Q (.bl (g i.cps.toList j.cps.toList)) H
 |_,_=>False
def HY{f:s_->s_->Sem s_}{p:Int->Int->Bool}{g:ue Nat->ue Nat->Bool}(h1:OpR X f (rI0 λi j=>.bl (p i j)))
  (h2:OpR X f (λx y H Q=>∃i j,x=.str i/\y=.str j/\Q (.bl (g i.cps.toList j.cps.toList)) H)):OpR X f (HX p g):=
 (h1.or h2).imp λx y H Q q=>by cases x <;> cases y <;> first|exact .inl ⟨_,_,rfl,rfl,q⟩|exact .inr ⟨_,_,rfl,rfl,q⟩|exact q.elim
def T6:OpR X (d6 .Lt) (HX (λi j=>decide (i<j)) λi j=>decide (i<j)):=HY V7 Jc
def T7:OpR X (d6 .Gt) (HX (λi j=>decide (j<i)) λi j=>decide (j<i)):=HY V8 λpins s σ H x y v u Q I rx ry h=>by let⟨i,j,rfl,rfl,q⟩:=h;let⟨t,rfl⟩:=rx;let⟨t',rfl⟩:=ry;exact PySem.P.gt_str (Fy I q rfl)
end
structure Y6(t:TE):Prop where
 go:∀σ H(Q Q':VK),(∀v H1,Q v H1->Q' v H1)->t σ H Q->t σ H Q'
section
variable{X:Cx}{e a b:uc}{t t' ta tb:TE}{pos:Pos}
def Ph(hu:X.A.units+1<cLine):IxR X (λx y H Q=>∃p v,x=.ref p/\tT H p y (a_ v)/\Q v H):=by
 intro value slice pins s σ H x y v u Q I rx ry h hs;let⟨p,w,rfl,g,q⟩:=h;cases rx
 have hT:=DF I g;unfold subscriptTail;refine aa ?_;rw[getitemInPython_of_ne hT.not_modules];refine aa (km hT PySem.F.slot_dict_getitem.lookup ?_);have fin:wpAny (h_ X) X.A (subscripted slice false (.ref p) u) (λr s₃=>wpAny (h_ X) X.A (letTemporaryGo value (.ref p) r >>= λ_=>pure r) (EP X pins σ Q) X.xe s₃) X.xe s:=by rw[hs];exact wpAny_operating (Jk hu I g ry λw' s3 I3 rw'=>aa (wpAny_letTemporaryGo (af ⟨w,H,I3,rw',q⟩)))
 first
  |exact af (aa fin)
  |exact aa (af (aa fin))
  |exact aa fin
def Vq(K:ag):R2:=λx y H Q=>match x with
 |.str z=>(match y with
  |.int i=>z.length<=bp/\∃c,atI z.cps.toList i=a_ c/\Q (.str ⟨#[c]⟩) H
  |_=>False)
 |.ref p=>(∃xs i v,y=.int i/\(SqL K H p xs\/SqT K H p xs)/\atI xs i=a_ v/\Q v H)\/∃v,tT H p y (a_ v)/\Q v H
 |_=>False
theorem IxR.imp(h:IxR X r)(i:∀x y H Q,r' x y H Q->r x y H Q):IxR X r':=λa b pins s σ H x y v u Q I rx ry q hs=>h a b pins s σ H x y v u Q I rx ry (i x y H Q q) hs
def ixC(hu:X.A.units+1<cLine)(K:ag)(hK:X.K=K):IxR X (Vq K):=by
 subst hK;refine(OT.or (SR.or (SS.or (Ph hu)))).imp λx y H Q h=>?_;cases x with
 |str z=>
  cases y with
  |int i=>let⟨h1,c,h2,h3⟩:=h;exact .inr (.inr (.inl ⟨z,i,c,rfl,rfl,h1,h2,h3⟩))
  |_=>exact h.elim
 |ref p=>
  rcases h with⟨xs,i,v,rfl,hs|hs,ha,hq⟩|⟨v,g,hq⟩
  ·exact .inl ⟨p,xs,i,v,rfl,rfl,hs,ha,hq⟩
  ·exact .inr (.inl ⟨p,xs,i,v,rfl,rfl,hs,ha,hq⟩)
  ·exact .inr (.inr (.inr ⟨p,v,rfl,g,hq⟩))
 |_=>exact h.elim
def T8(hu:X.A.units+1<cLine)(K:ag)(hK:X.K=K):OpR X (d6 .In) (λx y H Q=>rIn K false x y H Q\/∃a o,y=.ref a/\tT H a x o/\Q (.bl o.isSome) H):=by
 subst hK;refine Jh.or λpins s σ H x y v u Q I rx ry h=>?_;let⟨a,o,rfl,g,q⟩:=h;cases ry
 exact Xo hu I g rx λs' I'=>⟨.bl o.isSome,H,I',rfl,q⟩
def Ju(hu:X.A.units+1<cLine)(K:ag)(hK:X.K=K):OpR X (d6 .NotIn) (λx y H Q=>rIn K true x y H Q\/∃a o,y=.ref a/\tT H a x o/\Q (.bl (!o.isSome)) H):=by
 subst hK;refine BW.or λpins s σ H x y v u Q I rx ry h=>?_;let⟨a,o,rfl,g,q⟩:=h;cases ry
 exact OV hu I g rx λs' I'=>⟨.bl (!o.isSome),H,I',rfl,q⟩
def Vr(K:ag):ue V->Hp->VK->Prop:=λxs H Q=>match xs with
 |[.str y]=>y.length<=bp/\Q (.int y.length) H
 |[.ref p]=>(∃xs,(SqL K H p xs\/SqT K H p xs)/\Q (.int xs.length) H)\/∃kvs,H p=a_ (.dK kvs)/\Q (.int kvs.length) H
 |_=>False
def Jv(K:ag)(hK:X.K=K):iH X (.builtin "len") (Vr K):=by
 subst hK;intro pins s σ H xs us Q I r h
 match xs,h with
 |[.str y],h=>exact L0 pins s σ H _ us Q I r ⟨_,_,rfl,⟨h.1,rfl⟩,h.2⟩
 |[.ref p],h=>
  rcases h with⟨ys,hs,q⟩|⟨kvs,hs,q⟩
  ·exact BX pins s σ H _ us Q I r ⟨p,ys,rfl,hs,q⟩
  ·exact Jm pins s σ H _ us Q I r ⟨p,kvs,rfl,hs,q⟩
def DY(K:ag)(hK:X.K=K):iH X (.type "tuple") (λxs H Q=>∃p ys,xs=[.ref p]/\((SqL K H p ys/\∀l,H l=b_->Q (.ref l) (upd H l (.tup ys)))\/(SqT K H p ys/\Q (.ref p) H))):=by subst hK;exact A9
def Vs(ta:TA):TI:=λσ H R=>ta σ H λvs H1=>match vs with
 |[.int j]=>(-(2 ^ 62)<=j/\j<2 ^ 62)/\R (Itr 0 j.toNat) H1
 |_=>False
def Vt(ta:TA):TI:=λσ H R=>ta σ H λvs H1=>match vs with
 |[.int i,.int j]=>(-(2 ^ 62)<=i/\i<2 ^ 62/\-(2 ^ 62)<=j/\j<2 ^ 62)/\R (Itr i (j-i).toNat) H1
 |_=>False
def Pi{vs:ue V}{Q:Int->Prop}(h:match vs with|[.int i]=>Q i|_=>False):∃i,vs=[.int i]/\Q i:=by
 split at h
 · exact⟨_,rfl,h⟩
 · exact h.elim
def pr1{x:uc}{ta:TA}{tg:uc}{p pos:Pos}(hg:Gl X "range")(hm:X.mg "range" = b_)(ha:PA X [x] ta)(hs:da [x] X.env=[(false,eval x X.env)]:=by rfl):PI X tg (.Call (.Name "range" p) [x] [] pos) (Vs ta):=by intro pins s σ H R I h;refine Call_ (tR I hg hm boot_range (lu (thn (ha pos pins s σ H _ I h) λus s1 hz=>?_) hs rfl));let⟨vs,H1,I1,r1,q1⟩:=hz;let⟨j,rfl,⟨h1,h2⟩,q⟩:=Pi q1;let⟨u,rfl,t,rfl⟩:=vals1 r1;exact call_range_1 (DA I1 ⋯ ⋯ h1 h2 (l_ q))
def Lu{vs:ue V}{Q:Int->Int->Prop}(h:match vs with|[.int i,.int j]=>Q i j|_=>False):∃i j,vs=[.int i,.int j]/\Q i j:=by
 split at h
 ·exact⟨_,_,rfl,h⟩
 ·exact h.elim
def pr2{x y:uc}{ta:TA}{tg:uc}{p pos:Pos}(hg:Gl X "range")(hm:X.mg "range" = b_)(ha:PA X [x,y] ta)(hs:da [x,y] X.env=[(false,eval x X.env),(false,eval y X.env)]:=by rfl)(hs2:da [y] X.env=[(false,eval y X.env)]:=by rfl):
  PI X tg (.Call (.Name "range" p) [x,y] [] pos) (Vt ta):=by
 intro pins s σ H R I h;refine Call_ (tR I hg hm boot_range (lu (thn (ha pos pins s σ H _ I h) λus s1 hz=>?_) (by rw[hs,hs2]) (by rw[hs2];rfl)));let⟨vs,H1,I1,r1,q1⟩:=hz;let⟨i,j,e,⟨h1,h2,h3,h4⟩,q⟩:=Lu (Q:=λi j=>(-(2 ^ 62)<=i/\i<2 ^ 62/\-(2 ^ 62)<=j/\j<2 ^ 62)/\R (Itr i (j-i).toNat) H1) q1;subst e;let⟨u,w',rfl,⟨t,rfl⟩,⟨t',rfl⟩⟩:=vals2 r1;exact call_range_2 (DA I1 h1 h2 h3 h4 q)
def Vu(t:TE):TO:=λσ H Q=>t σ H λx H1=>match x with
 |.int i=>Q (a_ i) H1
 |_=>False
def Lv(h:PE X x te):PO X (a_ x) (Vu te):=by
 intro pins s σ H Q I hw;rw[evalPart_some];refine thn (h pins s σ H _ I hw) λu s1 hz=>?_;let⟨x,H1,I1,r1,q1⟩:=hz;cases x with
 |int i=>let⟨t,rfl⟩:=r1;exact⟨a_ i,H1,I1,.int i t,q1⟩
 |_=>exact q1.elim
end
structure Def(K:ag)(mg:o_ 0)(x:Str)(st:ud)(f:t7)(fd:e7)(ps:ue Str):Prop where
 fn:Fun K x x st f fd
 mg:mg x=c_ f
 bd:Binds K fd ps []
section
variable{X:Cx}
def Vv{x:Str}{st:ud}{f:t7}{fd:e7}{ps:ue Str}{k:Nat}{sp:Sp}{e:uc}{es:ue uc}{t:TA}{p pos:Pos}(D:Def X.K X.mg x st f fd ps)(G:bA X.prog X.w X.K X.mg X.base CX0 k f fd ps sp)(hr:gG k X.A)(ha:PA X (e::es) t)
  (hg:Gl X x:=by rfl) (hdb:(x == ("__debug__" : Str))=false:=by decide) (he:da (e::es) X.env=(false,eval e X.env)::da es X.env:=by rfl) (hpl:(backTo pos (da es X.env)).any (·.1)=false:=by rfl):
  PE X (.Call (.Name x p) (e::es) [] pos) (RB sp [] E0 t):=OP G hr hg D.mg D.fn.kp D.bd .nil HL ha hdb he hpl
end
def jZ{α:Type}{xs:ue α}{i:Nat}{v:α}(h:xs[i]?=a_ v):atI xs (i:Int)=a_ v:=by have h1:=(ab.mp h).1;unfold atI ixN;rw[if_pos ⋯,if_pos ⋯];simpa using h
def Aa.upd(h:H a=b_):Aa H (upd H a o):=λb u e=>by rw[aV (dY e h)];exact e
theorem Def.mk'{K:ag}{mg:o_ 0}{h:t_}{x:Str}{st:ud}{f:t7}{ps:ue Str}{oc:s_}{od an:uf t7}{osl:n_ 0}{kV doc pm cdv ct:s_}(X:K.In h)(G:h.Ns fb mg)
  (a:gq K fb x=a_ (c_ f)) (l:K.lookup f=a_ ⟨oc,od,.func (dw x x (bB st) (aX st) (aG st) .none kV doc pm an cdv ct),osl⟩)
  (c:d0 K cdv x=true) (k:dg K (.ref f)=true)
  (b:∀(kV doc pm:s_)(an:uf t7)(cdv ct:s_)(us:ue s_),us.length=ps.length->bindArgs (dw x x (bB st) (aX st) (aG st) .none kV doc pm an cdv ct) ⟨us,[]⟩=pure (ps.zip us)):
  Def K mg x st f (dw x x (bB st) (aX st) (aG st) .none kV doc pm an cdv ct) ps:=
 ⟨qE l c k,PySem.W.mg_of X G a,(qE (st:=st) l c k).binds b⟩
end L2
namespace L2
open PySem.SeqAt
inductive D where
 |non|bl (b:Bool)|int (i:Int)|str (x:Str)|tup (xs:ue D)
mutual
def D.depth:D->Nat
 |.tup xs=>D.depths xs+1
 |_=>0
def D.depths:ue D->Nat
 |[]=>0
 |x::xs=>max (D.depth x) (D.depths xs)
end
theorem D.depths_le:∀{xs:ue D}{i:Nat}{d:D},xs[i]?=a_ d->d.depth<=D.depths xs
 |[],_,_,h=>by simp at h
 |x::xs,0,d,h=>by
  have:x=d:=by simpa using h
  subst this
  show x.depth<=max x.depth (D.depths xs)
  omega
 |x::xs,i+1,d,h=>by
  have:=D.depths_le (xs:=xs) (i:=i) (d:=d) (l_ h)
  show d.depth<=max x.depth (D.depths xs)
  omega
mutual
def Rep(K:ag)(H:Hp):D->V->Prop
 |.non,v=>v=.non
 |.bl b,v=>v=.bl b
 |.int i,v=>v=.int i
 |.str x,v=>v=.str x
 |.tup ds,v=>∃a vs,v=.ref a/\SqT K H a vs/\iE K H ds vs
def iE(K:ag)(H:Hp):ue D->ue V->Prop
 |[],[]=>True
 |d::ds,v::vs=>Rep K H d v/\iE K H ds vs
 |[],_::_=>False
 |_::_,[]=>False
end
mutual
def eqD:D->D->Bool
 |.non,.non=>true
 |.bl a,.bl b=>a == b
 |.bl a,.int b=>(if a then 1 else 0) == b
 |.int a,.bl b=>a == (if b then 1 else 0)
 |.int a,.int b=>a == b
 |.str a,.str b=>a == b
 |.tup xs,.tup ys=>iN xs ys
 |_,_=>false
def iN:ue D->ue D->Bool
 |[],[]=>true
 |x::xs,y::ys=>eqD x y&&iN xs ys
 |[],_::_=>false
 |_::_,[]=>false
end
mutual
def ltD:D->D->uf Bool
 |.int a,.int b=>a_ (decide (a<b))
 |.str a,.str b=>a_ (decide (a.cps.toList<b.cps.toList))
 |.tup xs,.tup ys=>qG xs ys
 |_,_=>b_
def qG:ue D->ue D->uf Bool
 |[],[]=>a_ false
 |[],_::_=>a_ true
 |_::_,[]=>a_ false
 |x::xs,y::ys=>if eqD x y=true then qG xs ys else ltD x y
end
mutual
theorem yF:∀d:D,eqD d d=true
 |.non=>rfl
 |.bl b=>by simp[eqD]
 |.int i=>by simp[eqD]
 |.str x=>by simp[eqD]
 |.tup xs=>by simp only[eqD];exact B1 xs
theorem B1:∀ds:ue D,iN ds ds=true
 |[]=>rfl
 |d::ds=>by simp only[iN,yF d,B1 ds,Bool.and_self]
end
def mG(H H':Hp):Prop:=∀a xs,Rd H a (.tup xs)->Rd H' a (.tup xs)
theorem mG.refl(H:Hp):mG H H:=λ_ _ h=>h
theorem mG.trans(a:mG H H1)(b:mG H1 H2):mG H H2:=λc xs h=>b c xs (a c xs h)
theorem mG.same(s:Aa H H'):mG H H':=λa xs h=>by
 rcases h with h|⟨o,h⟩
 ·exact .inl (s _ _ h)
 ·exact .inr ⟨o,s _ _ h⟩
def DZ:uf HO->Prop
 |some (.tup _)=>False
 |some (.frz _ _)=>False
 |_=>True
def mG.upd(h:DZ (H p)):mG H (upd H p o):=λa xs q=>by
 have ne:a≠p:=by
  rintro rfl;rcases q with q|⟨ob,q⟩
  ·rw[q]at h;exact h
  ·rw[q]at h;exact h
 rcases q with q|⟨ob,q⟩
 ·exact .inl (by rw[aV ne];exact q)
 ·exact .inr ⟨ob,by rw[aV ne];exact q⟩
theorem mG.sq{K:ag}{H H':Hp}{a:t7}{xs:ue V}(t:mG H H')(h:SqT K H a xs):SqT K H' a xs:=by
 rcases h with h|h
 ·exact .inl (t a xs h)
 ·exact .inr h
section
variable{K:ag}{H H':Hp}
mutual
theorem Rep.tp(t:mG H H'):∀{d:D}{v:V},Rep K H d v->Rep K H' d v
 |.non,_,h=>h
 |.bl _,_,h=>h
 |.int _,_,h=>h
 |.str _,_,h=>h
 |.tup ds,_,⟨a,vs,e,q,r⟩=>⟨a,vs,e,t.sq q,iE.tp t r⟩
theorem iE.tp(t:mG H H'):∀{ds:ue D}{vs:ue V},iE K H ds vs->iE K H' ds vs
 |[],[],_=>trivial
 |_::_,_::_,⟨h,r⟩=>⟨Rep.tp t h,iE.tp t r⟩
 |[],_::_,h=>h.elim
 |_::_,[],h=>h.elim
end
theorem iE.length:∀{ds:ue D}{vs:ue V},iE K H ds vs->ds.length=vs.length
 |[],[],_=>rfl
 |_::_,_::_,⟨_,r⟩=>by simp[iE.length r]
 |[],_::_,h=>h.elim
 |_::_,[],h=>h.elim
theorem iE.get:∀{ds:ue D}{vs:ue V}{i:Nat}{v:V},iE K H ds vs->vs[i]?=a_ v->∃d,ds[i]?=a_ d/\Rep K H d v
 |[],[],_,_,_,e=>by simp at e
 |d::_,w::_,0,v,⟨h,_⟩,e=>by
  have:w=v:=by simpa using e
  subst this;exact⟨d,rfl,h⟩
 |_::ds,_::vs,i+1,v,⟨_,r⟩,e=>by
  let⟨d,h1,h2⟩:=iE.get (ds:=ds) (vs:=vs) (i:=i) (v:=v) r (l_ e);exact⟨d,l_ h1,h2⟩
 |[],_::_,_,_,h,_=>h.elim
 |_::_,[],_,_,h,_=>h.elim
theorem iE.at:∀{ds:ue D}{vs:ue V}{i:Nat}{d:D},iE K H ds vs->ds[i]?=a_ d->∃v,vs[i]?=a_ v/\Rep K H d v
 |[],[],_,_,_,e=>by simp at e
 |d::_,w::_,0,d',⟨h,_⟩,e=>by
  have:d=d':=by simpa using e
  subst this;exact⟨w,rfl,h⟩
 |_::ds,_::vs,i+1,d,⟨_,r⟩,e=>by
  let⟨v,h1,h2⟩:=iE.at (ds:=ds) (vs:=vs) (i:=i) (d:=d) r (l_ e);exact⟨v,l_ h1,h2⟩
 |[],_::_,_,_,h,_=>h.elim
 |_::_,[],_,_,h,_=>h.elim
end
section
variable{X:Cx}{pins:g_ 0}{σ:St}{H:Hp}{s:tw}
def mH{A:t9}{s:tw}{v u:s_}{b:Bool}(h:RcAt A s v u b)(hs:v=u->b=true)(hf:∀f t,v≠.float f t):EqAt A s v u b:=λprog w E Q hq=>by
 unfold eqBool;refine fo ?_;refine wpAny_ite_split (λhab=>?_) (λ_=>?_)
 ·have e:=hs (eq_of_beq hab);subst e;exact aa (mq (af hq))
 ·cases v <;> first|exact absurd rfl (hf _ _)|exact aa (h prog w E _ (qm hq))|(cases u <;> exact aa (h prog w E _ (qm hq)))
def B2{K:ag}{H:Hp}{d:D}{x:V}{v:s_}(h:Rep K H d x)(r:RelV x v):∀f t,v≠.float f t:=λf t e=>by
 subst e;cases d with
 |non=>cases h;cases r
 |bl b=>cases h;cases r
 |int b=>cases h;let⟨_,z⟩:=r;cases z
 |str b=>cases h;let⟨_,z⟩:=r;cases z
 |tup ds=>let⟨_,_,rfl,_⟩:=h;cases r
theorem xG(I:Inv X pins σ H s):∀(n:Nat)(d e:D)(v:V),d.depth<=n->Rep X.K H d v->Rep X.K H e v->d=e
 |n,.non,e,v,_,h,h'=>by
  cases h
  cases e <;> first|(let⟨_,_,z,_⟩:=h';exact absurd z (by intro q;cases q))|rfl|exact absurd h' (by intro z;cases z)
 |n,.bl b,e,v,_,h,h'=>by
  cases h
  cases e <;> first|(let⟨_,_,z,_⟩:=h';exact absurd z (by intro q;cases q))|(cases h';rfl)|exact absurd h' (by intro z;cases z)
 |n,.int i,e,v,_,h,h'=>by
  cases h
  cases e <;> first|(let⟨_,_,z,_⟩:=h';exact absurd z (by intro q;cases q))|(cases h';rfl)|exact absurd h' (by intro z;cases z)
 |n,.str x,e,v,_,h,h'=>by
  cases h
  cases e <;> first|(let⟨_,_,z,_⟩:=h';exact absurd z (by intro q;cases q))|(cases h';rfl)|exact absurd h' (by intro z;cases z)
 |0,.tup ds,e,v,hd,h,h'=>absurd hd (by show ¬ D.depths ds+1<=0;omega)
 |n+1,.tup ds,e,v,hd,h,h'=>by
  let⟨a,vs,rfl,q,r⟩:=h;cases e with
  |tup es=>
   let⟨a',vs',ea,q',r'⟩:=h';cases ea
   have:=I.tuple_inj q q';subst this;have hd':D.depths ds+1<=n+1:=hd;have:ds=es:=by
    apply k7;intro i;cases hi:ds[i]? with
    |none=>have h1:=r.length;have h2:=r'.length;have:ds.length<=i:=List.getElem?_eq_none_iff.mp hi;exact(List.getElem?_eq_none_iff.mpr ⋯).symm
    |some d=>let⟨v,hv,hr⟩:=r.at hi;let⟨e,he,hr'⟩:=r'.get hv;rw[he,xG I n d e v (by have:=D.depths_le hi;omega) hr hr']
   rw[this]
  |_=>cases h'
def rJ{xs ys:ue D}:((fg (min xs.length ys.length)).all (λj=>match xs[j]?,ys[j]? with|some x,a_ y=>eqD x y|_,_=>false)&&xs.length == ys.length)=iN xs ys:=by
 induction xs generalizing ys with
 |nil=>
  cases ys with
  |nil=>rfl
  |cons y ys=>simp[iN]
 |cons x xs ih=>
  cases ys with
  |nil=>simp[iN]
  |cons y ys=>
   have:=ih (ys:=ys);have e:min (x::xs).length (y::ys).length=min xs.length ys.length+1:=by simp only[dm];omega
   rw[e,List.range_succ_eq_map,ie,j3];simp only[List.getElem?_cons_zero,Function.comp_def,fu,dm,iN];rw[<-this];have e2:(xs.length+1 == ys.length+1)=(xs.length == ys.length):=by simp
   rw[e2,Bool.and_assoc]
def Vw(I:Inv X pins σ H s):∀(n:Nat)(d e:D)(A:t9)(x y:V)(v u:s_),d.depth<=n->A.units+n<cLine->Rep X.K H d x->Rep X.K H e y->RelV x v->RelV y u->RcAt A s v u (eqD d e):=by
 intro n
 induction n with
 |zero=>
  intro d e A x y v u hd hu hx hy rx ry;cases d with
  |tup ds=>exact absurd hd (by show ¬ D.depths ds+1<=0;omega)
  |non=>
   cases hx;cases rx;cases e with
   |non=>cases hy;cases ry;exact RcAt.none_none
   |bl b=>cases hy;cases ry;exact RcAt.none_bool b
   |int b=>cases hy;let⟨t,rfl⟩:=ry;exact RcAt.none_int b t
   |str b=>cases hy;let⟨t,rfl⟩:=ry;exact RcAt.none_str b t
   |tup es=>let⟨a,vs,rfl,q,r⟩:=hy;cases ry;let⟨its,_,p,_⟩:=I.tuple q;exact RcAt.none_tuple p ⋯
  |bl a=>
   cases hx;cases rx;cases e with
   |non=>cases hy;cases ry;exact RcAt.bool_none a
   |bl b=>cases hy;cases ry;exact RcAt.bool_bool a b
   |int b=>cases hy;let⟨t,rfl⟩:=ry;exact RcAt.bool_int a b t
   |str b=>cases hy;let⟨t,rfl⟩:=ry;exact RcAt.bool_str a b t
   |tup es=>let⟨a',vs,rfl,q,r⟩:=hy;cases ry;let⟨its,_,p,_⟩:=I.tuple q;exact RcAt.bool_tuple a p ⋯
  |int a=>
   cases hx;let⟨t',rfl⟩:=rx;cases e with
   |non=>cases hy;cases ry;exact RcAt.int_none a t'
   |bl b=>cases hy;cases ry;exact RcAt.int_bool a t' b
   |int b=>cases hy;let⟨t,rfl⟩:=ry;exact RcAt.int_int a t' b t
   |str b=>cases hy;let⟨t,rfl⟩:=ry;exact RcAt.int_str a t' b t
   |tup es=>let⟨a',vs,rfl,q,r⟩:=hy;cases ry;let⟨its,_,p,_⟩:=I.tuple q;exact RcAt.int_tuple a t' p ⋯
  |str a=>
   cases hx;let⟨t',rfl⟩:=rx;cases e with
   |non=>cases hy;cases ry;exact RcAt.str_none a t'
   |bl b=>cases hy;cases ry;exact RcAt.str_bool a t' b
   |int b=>cases hy;let⟨t,rfl⟩:=ry;exact RcAt.str_int a t' b t
   |str b=>cases hy;let⟨t,rfl⟩:=ry;exact RcAt.str_str a t' b t
   |tup es=>let⟨a',vs,rfl,q,r⟩:=hy;cases ry;let⟨its,_,p,_⟩:=I.tuple q;exact RcAt.str_tuple a t' p ⋯
 |succ n ih=>
  intro d e A x y v u hd hu hx hy rx ry;by_cases h0:d.depth<=n
  ·exact ih d e A x y v u h0 ⋯ hx hy rx ry
  ·cases d with
   |non=>exact absurd (show D.depth .non<=n from cv n) h0
   |bl b=>exact absurd (show D.depth (.bl b)<=n from cv n) h0
   |int b=>exact absurd (show D.depth (.int b)<=n from cv n) h0
   |str b=>exact absurd (show D.depth (.str b)<=n from cv n) h0
   |tup ds=>
    have hds:D.depths ds<=n:=by have:D.depths ds+1<=n+1:=hd;omega
    let⟨a,vs,rfl,q,r⟩:=hx;cases rx
    let⟨its,rv,p,_⟩:=I.tuple q;cases e with
    |non=>cases hy;cases ry;exact RcAt.tuple_none p ⋯
    |bl b=>cases hy;cases ry;exact RcAt.tuple_bool b p ⋯
    |int b=>cases hy;let⟨t,rfl⟩:=ry;exact RcAt.tuple_int b t p ⋯
    |str b=>cases hy;let⟨t,rfl⟩:=ry;exact RcAt.tuple_str b t p ⋯
    |tup es=>
     let⟨a',vs',rfl,q',r'⟩:=hy;cases ry
     let⟨its',rv',p',_⟩:=I.tuple q';have l1:=r.length;have l2:=r'.length;have l3:=rv.length;have l4:=rv'.length;have key:=RcAt.tuples (A:=A) (e:=λj=>match ds[j]?,es[j]? with|some x,a_ y=>eqD x y|_,_=>false) p p' ⋯ (λj h1 h2=>by
      have h1':j<ds.length:=by simp at h1;omega
      have h2':j<es.length:=by simp at h2;omega
      have g1:ds[j]?=a_ ds[j]:=by simp[h1']
      have g2:es[j]?=a_ es[j]:=by simp[h2']
      let⟨xv,hxv,hrx⟩:=r.at g1;let⟨yv,hyv,hry⟩:=r'.at g2;let⟨xu,hxu,hru⟩:=rv.get hxv;let⟨yu,hyu,hru'⟩:=rv'.get hyv;have e1:its.toArray[j]=xu:=by have:its[j]?=a_ xu:=hxu;simpa using(ab.mp this).2
      have e2:its'.toArray[j]=yu:=by have:its'[j]?=a_ yu:=hyu;simpa using(ab.mp this).2
      rw[e1,e2];simp only[g1,g2];have hdj:=D.depths_le g1;refine mH (ih ds[j] es[j] A.in1 xv yv xu yu ⋯ (by show A.units+1+n<cLine;omega) hrx hry hru hru') (λev=>by
      subst ev;have exy:xv=yv:=RelV.inj hru hru';subst exy;rw[xG I n ds[j] es[j] xv ⋯ hrx hry];exact yF _) (B2 hrx hru))
     have sz:((fg (min its.toArray.size its'.toArray.size)).all (λj=>match ds[j]?,es[j]? with|some x,a_ y=>eqD x y|_,_=>false)&&its.toArray.size == its'.toArray.size)=eqD (.tup ds) (.tup es):=by
      have a1:its.toArray.size=ds.length:=by simp;omega
      have a2:its'.toArray.size=es.length:=by simp;omega
      rw[a1,a2];simp only[eqD];exact rJ
     rw[<-sz];exact key
def Lw(I:Inv X pins σ H s){d:D}{A:t9}(hd:d.depth<=n)(hu:A.units+n<cLine)(hx:Rep X.K H d x)(hy:Rep X.K H e y)(rx:RelV x v)(ry:RelV y u):EqAt A s v u (eqD d e):=mH (Vw I n d e A x y v u hd hu hx hy rx ry) (λev=>by subst ev;have exy:x=y:=RelV.inj rx ry;subst exy;rw[xG I n d e x hd hx hy];exact yF _) (B2 hx rx)
def T9(I:Inv X pins σ H s):∀(n:Nat)(d e:D)(A:t9)(x y:V)(v u:s_),d.depth<=n->A.units+n<cLine->Rep X.K H d x->Rep X.K H e y->RelV x v->RelV y u->RcNeAt A s v u (!eqD d e):=by
 intro n
 induction n with
 |zero=>
  intro d e A x y v u hd hu hx hy rx ry;cases d with
  |tup ds=>exact absurd hd (by show ¬ D.depths ds+1<=0;omega)
  |non=>
   cases hx;cases rx;cases e with
   |non=>cases hy;cases ry;exact RcNeAt.none_none
   |bl b=>cases hy;cases ry;exact RcNeAt.none_bool b
   |int b=>cases hy;let⟨t,rfl⟩:=ry;exact RcNeAt.none_int b t
   |str b=>cases hy;let⟨t,rfl⟩:=ry;exact RcNeAt.none_str b t
   |tup es=>let⟨a,vs,rfl,q,r⟩:=hy;cases ry;let⟨its,_,p,_⟩:=I.tuple q;exact RcNeAt.none_tuple p ⋯
  |bl a=>
   cases hx;cases rx;cases e with
   |non=>cases hy;cases ry;exact RcNeAt.bool_none a
   |bl b=>cases hy;cases ry;exact RcNeAt.bool_bool a b
   |int b=>cases hy;let⟨t,rfl⟩:=ry;exact RcNeAt.bool_int a b t
   |str b=>cases hy;let⟨t,rfl⟩:=ry;exact RcNeAt.bool_str a b t
   |tup es=>let⟨a',vs,rfl,q,r⟩:=hy;cases ry;let⟨its,_,p,_⟩:=I.tuple q;exact RcNeAt.bool_tuple a p ⋯
  |int a=>
   cases hx;let⟨t',rfl⟩:=rx;cases e with
   |non=>cases hy;cases ry;exact RcNeAt.int_none a t'
   |bl b=>cases hy;cases ry;exact RcNeAt.int_bool a t' b
   |int b=>cases hy;let⟨t,rfl⟩:=ry;exact RcNeAt.int_int a t' b t
   |str b=>cases hy;let⟨t,rfl⟩:=ry;exact RcNeAt.int_str a t' b t
   |tup es=>let⟨a',vs,rfl,q,r⟩:=hy;cases ry;let⟨its,_,p,_⟩:=I.tuple q;exact RcNeAt.int_tuple a t' p ⋯
  |str a=>
   cases hx;let⟨t',rfl⟩:=rx;cases e with
   |non=>cases hy;cases ry;exact RcNeAt.str_none a t'
   |bl b=>cases hy;cases ry;exact RcNeAt.str_bool a t' b
   |int b=>cases hy;let⟨t,rfl⟩:=ry;exact RcNeAt.str_int a t' b t
   |str b=>cases hy;let⟨t,rfl⟩:=ry;exact RcNeAt.str_str a t' b t
   |tup es=>let⟨a',vs,rfl,q,r⟩:=hy;cases ry;let⟨its,_,p,_⟩:=I.tuple q;exact RcNeAt.str_tuple a t' p ⋯
 |succ n ih=>
  intro d e A x y v u hd hu hx hy rx ry;by_cases h0:d.depth<=n
  ·exact ih d e A x y v u h0 ⋯ hx hy rx ry
  ·cases d with
   |non=>exact absurd (show D.depth .non<=n from cv n) h0
   |bl b=>exact absurd (show D.depth (.bl b)<=n from cv n) h0
   |int b=>exact absurd (show D.depth (.int b)<=n from cv n) h0
   |str b=>exact absurd (show D.depth (.str b)<=n from cv n) h0
   |tup ds=>
    have hds:D.depths ds<=n:=by have:D.depths ds+1<=n+1:=hd;omega
    let⟨a,vs,rfl,q,r⟩:=hx;cases rx
    let⟨its,rv,p,_⟩:=I.tuple q;cases e with
    |non=>cases hy;cases ry;exact RcNeAt.tuple_none p ⋯
    |bl b=>cases hy;cases ry;exact RcNeAt.tuple_bool b p ⋯
    |int b=>cases hy;let⟨t,rfl⟩:=ry;exact RcNeAt.tuple_int b t p ⋯
    |str b=>cases hy;let⟨t,rfl⟩:=ry;exact RcNeAt.tuple_str b t p ⋯
    |tup es=>
     let⟨a',vs',rfl,q',r'⟩:=hy;cases ry
     let⟨its',rv',p',_⟩:=I.tuple q';have l1:=r.length;have l2:=r'.length;have l3:=rv.length;have l4:=rv'.length;have key:=RcNeAt.tuples (A:=A) (e:=λj=>match ds[j]?,es[j]? with|some x,a_ y=>eqD x y|_,_=>false) p p' ⋯ (λj h1 h2=>by
      have h1':j<ds.length:=by simp at h1;omega
      have h2':j<es.length:=by simp at h2;omega
      have g1:ds[j]?=a_ ds[j]:=by simp[h1']
      have g2:es[j]?=a_ es[j]:=by simp[h2']
      let⟨xv,hxv,hrx⟩:=r.at g1;let⟨yv,hyv,hry⟩:=r'.at g2;let⟨xu,hxu,hru⟩:=rv.get hxv;let⟨yu,hyu,hru'⟩:=rv'.get hyv;have e1:its.toArray[j]=xu:=by have:its[j]?=a_ xu:=hxu;simpa using(ab.mp this).2
      have e2:its'.toArray[j]=yu:=by have:its'[j]?=a_ yu:=hyu;simpa using(ab.mp this).2
      rw[e1,e2];simp only[g1,g2];have hdj:=D.depths_le g1;exact Lw I (n:=n) ⋯ (by show A.units+1+n<cLine;omega) hrx hry hru hru')
     have sz:(!((fg (min its.toArray.size its'.toArray.size)).all (λj=>match ds[j]?,es[j]? with|some x,a_ y=>eqD x y|_,_=>false)&&its.toArray.size == its'.toArray.size))=(!eqD (.tup ds) (.tup es)):=by
      have a1:its.toArray.size=ds.length:=by simp;omega
      have a2:its'.toArray.size=es.length:=by simp;omega
      rw[a1,a2];simp only[eqD];rw[rJ]
     rw[<-sz];exact key
def Xp(K:ag):R2:=λx y H Q=>∃d e,Rep K H d x/\Rep K H e y/\d.depth<=40/\Q (.bl (eqD d e)) H
def Xq(K:ag):R2:=λx y H Q=>∃d e,Rep K H d x/\Rep K H e y/\d.depth<=40/\Q (.bl (!eqD d e)) H
def Ta(hu:X.A.units+64<cLine)(K:ag)(hK:X.K=K):OpR X (d6 .Eq) (Xp K):=by subst hK;intro pins s σ H x y v u Q I rx ry h;let⟨d,e,hx,hy,hd,q⟩:=h;exact Vw I 40 d e X.A x y v u hd ⋯ hx hy rx ry X.prog X.w X.xe _ ⟨.bl _,H,I,rfl,q⟩
def Tb(hu:X.A.units+64<cLine)(K:ag)(hK:X.K=K):OpR X (d6 .NotEq) (Xq K):=by subst hK;intro pins s σ H x y v u Q I rx ry h;let⟨d,e,hx,hy,hd,q⟩:=h;exact T9 I 40 d e X.A x y v u hd ⋯ hx hy rx ry X.prog X.w X.xe _ ⟨.bl _,H,I,rfl,q⟩
def Jw(K:ag)(H:Hp)(ds:ue D)(v:V):Prop:=∃a vs,v=.ref a/\SqL K H a vs/\iE K H ds vs
def B3{xs ys:ue D}(h:xs.length=ys.length):(fg xs.length).all (λj=>match xs[j]?,ys[j]? with|some x,a_ y=>eqD x y|_,_=>false)=iN xs ys:=by have:=rJ (xs:=xs) (ys:=ys);rw[h,Nat.min_self,beq_self_eq_true,Bool.and_true]at this;rw[h];exact this
def E1{xs ys:ue D}(h:iN xs ys=true):xs.length=ys.length:=by rw[<-rJ,cg]at h;exact eq_of_beq h.2
def yG{I:Inv X pins σ H s}{A:t9}{ds es:ue D}{its its':ue s_}(r:iE X.K H ds vs)(r':iE X.K H es vs')(rv:aR vs its)(rv':aR vs' its')(hd:D.depths ds<=40)(hu:A.units+42<cLine):
  ∀j(h1:j<its.toArray.size)(h2:j<its'.toArray.size),EqAt A.in1 s its.toArray[j] its'.toArray[j] (match ds[j]?,es[j]? with|some x,a_ y=>eqD x y|_,_=>false):=λj h1 h2=>by
 have l1:=r.length;have l2:=r'.length;have l3:=rv.length;have l4:=rv'.length;have h1':j<ds.length:=by simp at h1;omega
 have h2':j<es.length:=by simp at h2;omega
 have g1:ds[j]?=a_ ds[j]:=by simp[h1']
 have g2:es[j]?=a_ es[j]:=by simp[h2']
 let⟨xv,hxv,hrx⟩:=r.at g1;let⟨yv,hyv,hry⟩:=r'.at g2;let⟨xu,hxu,hru⟩:=rv.get hxv;let⟨yu,hyu,hru'⟩:=rv'.get hyv;have e1:its.toArray[j]=xu:=by simpa using(ab.mp hxu).2
 have e2:its'.toArray[j]=yu:=by simpa using(ab.mp hyu).2
 rw[e1,e2];simp only[g1,g2];have hdj:=D.depths_le g1;exact Lw I (n:=40) ⋯ (by show A.units+1+40<cLine;omega) hrx hry hru hru'
def Xr(K:ag):R2:=λx y H Q=>∃ds es,Jw K H ds x/\Jw K H es y/\D.depths ds<=40/\Q (.bl (iN ds es)) H
def Xs(K:ag):R2:=λx y H Q=>∃ds es,Jw K H ds x/\Jw K H es y/\D.depths ds<=40/\Q (.bl (!iN ds es)) H
def Tc(hu:X.A.units+64<cLine)(K:ag)(hK:X.K=K):OpR X (d6 .Eq) (Xr K):=by
 subst hK;intro pins s σ H x y v u Q I rx ry h;let⟨ds,es,⟨a,vs,rfl,q,r⟩,⟨b,vs',rfl,q',r'⟩,hd,k⟩:=h;cases rx;cases ry;let⟨its,rv,p,_⟩:=I.list q;let⟨its',rv',p',_⟩:=I.list q';have l1:=r.length;have l2:=r'.length;have l3:=rv.length;have l4:=rv'.length;by_cases hl:ds.length=es.length
 ·refine eq_listAt p.isList p'.isList (by simp;omega) ⋯ (yG (I:=I) r r' rv rv' hd ⋯) ⟨.bl _,H,I,rfl,?_⟩;have e1:its.toArray.size=ds.length:=by simp;omega
  rw[e1,B3 hl];exact k
 ·refine eq_list_lengthsAt p.isList p'.isList (by simp;omega) ⋯ ⟨.bl false,H,I,rfl,?_⟩;have e:iN ds es=false:=by
   cases h:iN ds es with
   |false=>rfl
   |true=>exact absurd (E1 h) hl
  rw[e]at k;exact k
def Td(hu:X.A.units+64<cLine)(K:ag)(hK:X.K=K):OpR X (d6 .NotEq) (Xs K):=by
 subst hK;intro pins s σ H x y v u Q I rx ry h;let⟨ds,es,⟨a,vs,rfl,q,r⟩,⟨b,vs',rfl,q',r'⟩,hd,k⟩:=h;cases rx;cases ry;let⟨its,rv,p,_⟩:=I.list q;let⟨its',rv',p',_⟩:=I.list q';have l1:=r.length;have l2:=r'.length;have l3:=rv.length;have l4:=rv'.length;by_cases hl:ds.length=es.length
 ·refine RcNeAt.lists p.isList p'.isList (by simp;omega) ⋯ (yG (I:=I) r r' rv rv' hd ⋯) X.prog X.w X.xe _ ⟨.bl _,H,I,rfl,?_⟩;have e1:its.toArray.size=ds.length:=by simp;omega
  rw[e1,B3 hl];exact k
 ·refine RcNeAt.lists_lengths p.isList p'.isList (by simp;omega) ⋯ X.prog X.w X.xe _ ⟨.bl true,H,I,rfl,?_⟩;have e:iN ds es=false:=by
   cases h:iN ds es with
   |false=>rfl
   |true=>exact absurd (E1 h) hl
  rw[e]at k;exact k
def Vx(K:ag)(neg:Bool):R2:=λx y H Q=>∃d p ds vs,y=.ref p/\(SqL K H p vs\/SqT K H p vs)/\Rep K H d x/\iE K H ds vs/\D.depths ds<=40/\Q (.bl (if neg then !ds.any (λe=>eqD e d) else ds.any (λe=>eqD e d))) H
noncomputable def isD(K:ag)(H:Hp)(d:D)(u:s_):Bool:=@decide (∃e x,RelV x u/\Rep K H e x/\e.depth<=40/\eqD e d=true) (jw _)
def Lx(I:Inv X pins σ H s){e:D}(r:RelV x u)(h:Rep X.K H e x)(hd:e.depth<=40):isD X.K H d u=eqD e d:=by
 unfold isD;cases q:eqD e d with
 |true=>exact @decide_eq_true _ (jw _) ⟨e,x,r,h,hd,q⟩
 |false=>refine @decide_eq_false _ (jw _) ?_;rintro⟨e',x',r',h',hd',q'⟩;have ex:x'=x:=RelV.inj r' r;subst ex;rw[xG I 40 e' e x' hd' h' h]at q';rw[q]at q';cases q'
theorem rK(I:Inv X pins σ H s):∀{ds:ue D}{vs:ue V}{us:ue s_},iE X.K H ds vs->aR vs us->D.depths ds<=40->us.any (isD X.K H d)=ds.any λe=>eqD e d
 |[],[],_,_,.nil,_=>rfl
 |e::ds,_::_,_,⟨h,r⟩,.cons rv rvs,hd=>by
  have h1:e.depth<=40/\D.depths ds<=40:=by have:max e.depth (D.depths ds)<=40:=hd;omega
  rw[ou,ou,Lx I rv h h1.1,rK I r rvs h1.2]
 |[],_::_,_,h,_,_=>h.elim
 |_::_,[],_,h,_,_=>h.elim
theorem rN(I:Inv X pins σ H s){A:t9}(hx:Rep X.K H d x)(rx:RelV x v)(hu:A.units+42<cLine):∀{ds:ue D}{vs:ue V}{us:ue s_},iE X.K H ds vs->aR vs us->D.depths ds<=40->∀u∈us,EqAt A.in1 s u v (isD X.K H d u)
 |[],[],_,_,.nil,_=>λu hu=>by cases hu
 |e::ds,_::_,_,⟨h,r⟩,.cons rv rvs,hd=>λu hm=>by
  have h1:e.depth<=40/\D.depths ds<=40:=by have:max e.depth (D.depths ds)<=40:=hd;omega
  rcases bx.mp hm with rfl|hm
  ·rw[Lx I rv h h1.1];exact Lw I (n:=40) h1.1 (by show A.units+1+40<cLine;omega) h hx rv rx
  ·exact rN I hx rx hu r rvs h1.2 u hm
 |[],_::_,_,h,_,_=>h.elim
 |_::_,[],_,h,_,_=>h.elim
def Te(hu:X.A.units+64<cLine)(K:ag)(hK:X.K=K):OpR X (d6 .In) (Vx K false):=by
 subst hK;intro pins s σ H x y v u Q I rx ry h;let⟨d,p,ds,vs,rfl,hq,hx,hr,hd,k⟩:=h;cases ry
 rcases hq with hq|hq
 ·let⟨its,r,pl,hz⟩:=I.list hq;refine SeqAt.in_listAt (isD X.K H d) pl.isList (λw hw=>rN I hx rx ⋯ hr r hd w (l_ hw)) ⟨.bl _,H,I,rfl,?_⟩;rw[show its.toArray.any (isD X.K H d)=its.any (isD X.K H d) by simp,rK I hr r hd];exact k
 ·let⟨its,r,pl,hz⟩:=I.tuple hq;refine SeqAt.in_tupleAt (isD X.K H d) pl (λw hw=>rN I hx rx ⋯ hr r hd w (l_ hw)) ⟨.bl _,H,I,rfl,?_⟩;rw[show its.toArray.any (isD X.K H d)=its.any (isD X.K H d) by simp,rK I hr r hd];exact k
def Jx(hu:X.A.units+64<cLine)(K:ag)(hK:X.K=K):OpR X (d6 .NotIn) (Vx K true):=by
 subst hK;intro pins s σ H x y v u Q I rx ry h;let⟨d,p,ds,vs,rfl,hq,hx,hr,hd,k⟩:=h;cases ry
 rcases hq with hq|hq
 ·let⟨its,r,pl,hz⟩:=I.list hq;refine SeqAt.notIn_listAt (isD X.K H d) pl.isList (λw hw=>rN I hx rx ⋯ hr r hd w (l_ hw)) ⟨.bl _,H,I,rfl,?_⟩;rw[show its.toArray.any (isD X.K H d)=its.any (isD X.K H d) by simp,rK I hr r hd];exact k
 ·let⟨its,r,pl,hz⟩:=I.tuple hq;refine SeqAt.notIn_tupleAt (isD X.K H d) pl (λw hw=>rN I hx rx ⋯ hr r hd w (l_ hw)) ⟨.bl _,H,I,rfl,?_⟩;rw[show its.toArray.any (isD X.K H d)=its.any (isD X.K H d) by simp,rK I hr r hd];exact k
end
end L2
namespace L2
open PySem
def keyLt:Sum Int Str->Sum Int Str->Bool
 |.inl a,.inl b=>decide (a<b)
 |.inr a,.inr b=>decide (a.cps.toList<b.cps.toList)
 |_,_=>false
def iO:ue (Sum Int Str)->ue (Sum Int Str)->Bool
 |[],[]=>false
 |[],_::_=>true
 |_::_,[]=>false
 |x::xs,y::ys=>if x=y then iO xs ys else keyLt x y
def kK:Sum Int Str->Bool
 |.inl _=>true
 |.inr _=>false
abbrev shape(ks:ue (Sum Int Str)):ue Bool:=ks.map kK
def HZ{a b:Str}(h:a.cps.toList=b.cps.toList):a=b:=by
 cases a;cases b
 congr;exact qz.mp h
def Ly(h:keyLt a b=true):keyLt b a=false:=by
 cases a <;> cases b <;> first|rfl|skip
 ·have:_<_:=of_decide_eq_true h;exact decide_eq_false ⋯
 ·exact decide_eq_false (List.lt_asymm (of_decide_eq_true h))
def B4(k:kK a=kK b)(h:keyLt a b=false)(h':keyLt b a=false):a=b:=by
 cases a <;> cases b <;> first|cases k|skip
 ·have h1:=of_decide_eq_false h;have h2:=of_decide_eq_false h';congr 1;omega
 ·have h1:=of_decide_eq_false h;have h2:=of_decide_eq_false h';congr 1;exact HZ (List.le_antisymm (oz.mp h2) (oz.mp h1))
theorem Lz:∀{a b c:Sum Int Str},kK a=kK b->kK b=kK c->keyLt b a=false->keyLt c b=false->keyLt c a=false
 |.inl a,.inl b,.inl c,_,_,h,h'=>by have h1:¬ b<a:=of_decide_eq_false h;have h2:¬ c<b:=of_decide_eq_false h';exact decide_eq_false ⋯
 |.inr a,.inr b,.inr c,_,_,h,h'=>by have h1:a.cps.toList<=b.cps.toList:=oz.mp (of_decide_eq_false h);have h2:b.cps.toList<=c.cps.toList:=oz.mp (of_decide_eq_false h');exact decide_eq_false (oz.mpr (List.le_trans h1 h2))
 |.inl _,.inr _,_,k,_,_,_=>by cases k
 |.inr _,.inl _,_,k,_,_,_=>by cases k
 |.inl _,.inl _,.inr _,_,k,_,_=>by cases k
 |.inr _,.inr _,.inl _,_,k,_,_=>by cases k
theorem I0:∀{a b:ue (Sum Int Str)},iO a b=true->iO b a=false
 |[],[],_=>rfl
 |[],_::_,_=>rfl
 |_::_,[],h=>by cases h
 |x::xs,y::ys,h=>by
  unfold iO at h⊢;by_cases e:x=y
  ·subst e;rw[if_pos rfl]at h⊢;exact I0 h
  ·rw[if_neg e]at h;rw[if_neg λz=>e z.symm];exact Ly h
theorem E2:∀{a b:ue (Sum Int Str)},shape a=shape b->iO a b=false->iO b a=false->a=b
 |[],[],_,_,_=>rfl
 |[],_::_,s,_,_=>by cases s
 |_::_,[],s,_,_=>by cases s
 |x::xs,y::ys,s,h,h'=>by
  have s1:kK x=kK y:=by simpa using congrArg List.head? s
  have s2:shape xs=shape ys:=by simpa using congrArg List.tail s
  unfold iO at h h';by_cases e:x=y
  ·subst e;rw[if_pos rfl]at h h';rw[E2 s2 h h']
  ·rw[if_neg e]at h;rw[if_neg λz=>e z.symm]at h';exact absurd (B4 s1 h h') e
theorem C5:∀{a b c:ue (Sum Int Str)},shape a=shape b->shape b=shape c->iO b a=false->iO c b=false->iO c a=false
 |[],[],[],_,_,_,_=>rfl
 |[],[],_::_,_,s',_,_=>by cases s'
 |[],_::_,_,s,_,_,_=>by cases s
 |_::_,[],_,s,_,_,_=>by cases s
 |_::_,_::_,[],_,s',_,_=>by cases s'
 |x::xs,y::ys,z::zs,s,s',h,h'=>by
  have s1:kK x=kK y:=by simpa using congrArg List.head? s
  have s2:shape xs=shape ys:=by simpa using congrArg List.tail s
  have s3:kK y=kK z:=by simpa using congrArg List.head? s'
  have s4:shape ys=shape zs:=by simpa using congrArg List.tail s'
  unfold iO at h h'⊢;by_cases e:y=x
  ·subst e;rw[if_pos rfl]at h;by_cases e':z=y
   ·subst e';rw[if_pos rfl]at h'⊢;exact C5 s2 s4 h h'
   ·rw[if_neg e']at h'⊢;exact h'
  ·rw[if_neg e]at h;by_cases e':z=y
   ·subst e';rw[if_neg e];exact h
   ·rw[if_neg e']at h';by_cases e2:z=x
    ·subst e2;exfalso;exact e (B4 s3 h h')
    ·rw[if_neg e2];exact Lz s1 s3 h h'
end L2
namespace L2
open PySem PySem.W PyProof.Rows
section
variable(lt:Nat->Nat->Bool)
abbrev pa'(p:Array Nat)(i:Nat):Nat:=p.getD i 0
def NIc(p:Array Nat)(k:Nat):Prop:=∀i j,i<=j->j<k->lt (pa' p i) (pa' p j)=false
end
structure Xt(lt:Nat->Nat->Bool)(p:Array Nat)(n f:Nat)(r:Array Nat×Nat×Nat):Prop where
 perm:r.1.Perm p
 lo:n<=r.2.1
 hi:r.2.1<=n+f
 q:r.2.2+1<=r.2.1
 ni:NIc lt r.1 r.2.1
 eq:∀i j,r.2.1-(r.2.2+1)<=i->i<r.2.1->r.2.1-(r.2.2+1)<=j->j<r.2.1->lt (pa' r.1 i) (pa' r.1 j)=false
section
variable{lt:Nat->Nat->Bool}(tr:∀i j k,lt j i=false->lt k j=false->lt k i=false)(as:∀i j,lt i j=true->lt j i=false)
include tr as
end
end L2
namespace L2
open PySem.SeqAt PySem.W
section
variable{n:Nat}(hn:0<n)
include hn
end
section
variable{prog:ub}{w:ua}{A:t9}{E:f_ 0}{s:tw}
def wQ{vs:ue s_}{P:PySem.Fin->tw->Prop}(lt:Nat->Nat->Bool)(tr:∀i j k,i<vs.length->j<vs.length->k<vs.length->lt j i=false->lt k j=false->lt k i=false)(as:∀i j,i<vs.length->j<vs.length->lt i j=true->lt j i=false)(ho:s.heap.get? a=a_ (seqObj "list" vs.toArray n))(h64:vs.length<1000000)(hk:∀s':tw,(∀b o,b≠a->s.heap.get? b=a_ o->s'.heap.get? b=a_ o)->∀Q:j_ kr,Q κ s'->m_ prog w A (keyKind' vs.toArray) Q E s')(hlt:∀s':tw,(∀b o,b≠a->s.heap.get? b=a_ o->s'.heap.get? b=a_ o)->∀i j,i<vs.length->j<vs.length->∀Q:j_ Bool,Q (lt i j) s'->m_ prog w A (keyLt' κ (vs.getD i cx) (vs.getD j cx)) Q (λ_ _=>False) s')(h:∀p:ue Nat,p.Perm (fg vs.length)->p.Pairwise (λi j=>lt j i=false)->P (.done (.ret .none)) {s with heap:=sortedHeap s.heap a vs (p.map λi=>vs.getD i cx).toArray}):
  m_ prog w A (Builtin.«list.sort» ⟨[.ref a],[]⟩) P E s:=by
 rw[list_sort_plain];have ha:a<(e_ s):=bf ho;refine aa (listItems_at ho rfl ?_);refine aa (m6 ho rfl ?_ (by rw[bh,fm];omega) (cv _));obtain⟨e1,ho1⟩:∃e1,(s.heap.update a (fc λ_=>#[])).get? a=a_ (seqObj "list" #[] e1):=⟨_,qh ho (λ_=>#[])⟩;refine aa (seqEpoch_at ho1 rfl ?_);refine aa (wpAny_newTuple ?_ (by show vs.length<=_;rw[fm];omega));refine aa (wpAny_newList ?_ (cv _));refine fo ?_;have ho6:(((s.heap.update a (fc λ_=>#[])).push (seqObj "tuple" vs.toArray 0)).push (seqObj "list" #[] 0)).get? a=a_ (seqObj "list" #[] e1):=by rw[og _ _ _ (by rw[size_push',q0];exact bu (Nat.lt_succ_of_lt ha)),og _ _ _ (by rw[q0];exact bu ha)];exact ho1
 have kept:∀b o,b≠a->s.heap.get? b=a_ o->(((s.heap.update a (fc λ_=>#[])).push (seqObj "tuple" vs.toArray 0)).push (seqObj "list" #[] 0)).get? b=a_ o:=λb o hb e=>ae _ (ae _ ((j5 s.heap (fc λ_=>#[]) (iz hb)).trans e))
 show m_ prog w A _ P E {s with heap:=((s.heap.update a (fc λ_=>#[])).push (seqObj "tuple" vs.toArray 0)).push (seqObj "list" #[] 0)}
 dsimp only;have hsz:vs.toArray.size=vs.length:=by simp
 by_cases h2:vs.toArray.size<2
 ·rw[if_pos h2,if_pos h2];refine aa (af ?_);rw[StateT.run_pure];refine aa (af ?_);dsimp only;refine aa (seqEpoch_at ho6 rfl ?_);refine aa (m6 ho6 rfl ?_ (cv _) (hsz2:=by rw[Array.size_map];show(pairsOf vs).size<=_;rw[pairsOf_size,fm];omega));simp only[bne_self_eq_false,d5,if_false];have e:(vs.toArray.zip vs.toArray).map (·.2)=((fg vs.length).map λi=>vs.getD i cx).toArray:=by
   apply qz.mp;apply k7;intro i;by_cases hi:i<vs.length
   ·simp[hi]
   ·simp[hi]
  have key:=h (fg vs.length) (jr _) (by rw[dq];intro i j hi hj hij;simp only[k8]at hi hj;omega);rw[<-e]at key;exact af key
 ·rw[if_neg h2,if_neg h2];have h2':2<=vs.length:=⋯;refine aa (hk _ kept _ ?_);refine aa (ji (DW (ks:=vs) (vs:=vs) (E:=E) (κ:=κ) rfl lt tr as (λi j hi hj Q hQ=>hlt _ kept i j hi hj Q hQ)) ?_ λ_ _ e=>e);rintro⟨⟨⟩,st'⟩ s' ⟨rfl,p,c1,c2,hout,hf⟩;dsimp only;refine aa (seqEpoch_at ho6 rfl ?_);refine aa (m6 ho6 rfl ?_ (cv _) (hsz2:=by
   have:(Array.map (λx=>x.snd) (arrOf st')).size<=bp:=by rw[hout,bh,aq,c1.length_eq,k8,fm];omega
   first|exact this|exact Nat.le_succ_of_le this))
  rw[hf];simp only[bne_self_eq_false,d5,if_false];have key:=h _ c1 c2;rw[<-hout]at key;exact af key
end
section
variable{prog:ub}{w:ua}{A:t9}{E:f_ 0}{s:tw}
def uB{P:PySem.Fin->tw->Prop}(ho:s.heap.get? a=a_ (seqObj "list" ([]:ue s_).toArray n))(h:P (.done (.ret .none)) {s with heap:=sortedHeap s.heap a [] #[]}):m_ prog w A (Builtin.«list.sort» ⟨[.ref a],[]⟩) P E s:=by
 rw[list_sort_plain];refine aa (listItems_at ho rfl ?_);refine aa (m6 ho rfl ?_ (cv _) (cv _));have ha:a<(e_ s):=bf ho;obtain⟨e1,ho1⟩:∃e1,(s.heap.update a (fc λ_=>#[])).get? a=a_ (seqObj "list" #[] e1):=⟨_,qh ho (λ_=>#[])⟩;refine aa (seqEpoch_at ho1 rfl ?_);refine aa (wpAny_newTuple ?_ (cv _));refine aa (wpAny_newList ?_ (cv _));refine fo ?_;have ho6:(((s.heap.update a (fc λ_=>#[])).push (seqObj "tuple" ([]:ue s_).toArray 0)).push (seqObj "list" #[] 0)).get? a=a_ (seqObj "list" #[] e1):=by rw[og _ _ _ (by rw[size_push',q0];exact bu (Nat.lt_succ_of_lt ha)),og _ _ _ (by rw[q0];exact bu ha)];exact ho1
 show m_ prog w A _ P E {s with heap:=((s.heap.update a (fc λ_=>#[])).push (seqObj "tuple" ([]:ue s_).toArray 0)).push (seqObj "list" #[] 0)}
 dsimp only;rw[if_pos nofun,if_pos nofun];refine aa (af ?_);rw[StateT.run_pure];refine aa (af ?_);dsimp only;refine aa (seqEpoch_at ho6 rfl ?_);have e0:(Array.map (λx=>x.snd) (arrOf (SortSt.mk' general' ((#[]:Array s_).zip (#[]:Array s_)) #[] 7 b_)))=(#[]:Array s_):=by
  show Array.map (λx=>x.snd) ((#[]:Array s_).zip (#[]:Array s_))=#[]
  simp
 refine aa (m6 ho6 rfl ?_ (cv _) (hsz2:=by
  have e1:(Array.map (λx=>x.snd) (arrOf (SortSt.mk' general' ((#[]:Array s_).zip (#[]:Array s_)) #[] 7 b_))).size=0:=by rw[e0];rfl
  first|exact fv (Nat.le_of_eq e1) (cv _)|(show _<=_;omega)))
 simp only[bne_self_eq_false,d5,if_false];refine af ?_
 show P (.done (.ret .none)) {s with heap:=(((s.heap.update a (fc λx=>#[])).push (seqObj "tuple" ([]:ue s_).toArray 0)).push (seqObj "list" #[] 0)).update a (fc λx=>Array.map (λx=>x.snd) (arrOf (SortSt.mk' general' ((#[]:Array s_).zip (#[]:Array s_)) #[] 7 b_)))}
 rw[e0];exact h
def Jy{Q:f_ 0}(Col:ue s_->tw->Prop)(hc:m_ prog w A.in1 (collect v) Col E s)(h:∀vs s1,Col vs s1->vs.length<1000000/\∃lt:Nat->Nat->Bool,(∀i j k,i<vs.length->j<vs.length->k<vs.length->lt j i=false->lt k j=false->lt k i=false)/\(∀i j,i<vs.length->j<vs.length->lt i j=true->lt j i=false)/\
   (∀(A':t9)(s':tw),(∀b o,s1.heap.get? b=a_ o->s'.heap.get? b=a_ o)->0<vs.length->∀(Q:j_ kr) E',Q κ s'->m_ prog w A' (keyKind' vs.toArray) Q E' s')/\
   (∀(s':tw),(∀b o,s1.heap.get? b=a_ o->s'.heap.get? b=a_ o)->∀i j,i<vs.length->j<vs.length->∀Q:j_ Bool,Q (lt i j) s'->m_ prog w A.in1.in1 (keyLt' κ (vs.getD i cx) (vs.getD j cx)) Q (λ_ _=>False) s')/\
   ∀(p:ue Nat)(h':t_)(e:Nat),p.Perm (fg vs.length)->p.Pairwise (λi j=>lt j i=false)->(∀b o,s1.heap.get? b=a_ o->h'.get? b=a_ o)->h'.get? (e_ s1)=a_ (seqObj "list" (p.map λi=>vs.getD i cx).toArray e)->Q (.ref (e_ s1)) {s1 with heap:=h'}):
  m_ prog w A (call (.builtin "sorted") [v]) Q E s:=by
 refine Calls.call_function_entry kind_sorted plain_sorted entry_sorted (args_sorted1 _) ?_;unfold Builtin.«sorted»;refine aa (m:=checkCount "sorted" 1 1 _) (af ?_);refine aa (ji hc (λvs s1 c=>?_) λ_ _ x=>x);let⟨h64,lt,tr,as,hk,hlt,fin⟩:=h vs s1 c;refine aa (wpAny_newList ?_ (by rw[fm];omega));have hoL:(s1.heap.push (seqObj "list" vs.toArray 0)).get? (e_ s1)=a_ (seqObj "list" vs.toArray 0):=bo _ rfl;have keep:∀b o,s1.heap.get? b=a_ o->b≠(e_ s1)/\(s1.heap.push (seqObj "list" vs.toArray 0)).get? b=a_ o:=λb o q=>⟨bu (bf q),ae _ q⟩
 show wpAny _ _ _ _ _ {s1 with heap:=s1.heap.push (seqObj "list" vs.toArray 0)}
 refine aa (fo (ir slot_list_sort ⟨_,hoL,rfl⟩ entry_list_sort ?_ (args_list_sort _)));have tree:m_ prog w A.in1.in1 (Builtin.«list.sort» ⟨[.ref (e_ s1)],[]⟩) (λr s'=>∃p:ue Nat,r=.done (.ret .none)/\p.Perm (fg vs.length)/\p.Pairwise (λi j=>lt j i=false)/\s'={s1 with heap:=sortedHeap (s1.heap.push (seqObj "list" vs.toArray 0)) (e_ s1) vs (p.map λi=>vs.getD i cx).toArray}) E {s1 with heap:=s1.heap.push (seqObj "list" vs.toArray 0)}:=by
  by_cases h0:0<vs.length
  ·exact wQ (κ:=κ) lt tr as hoL h64 (λs' kp Q hq=>hk _ s' (λb o e=>kp b o (keep b o e).1 (keep b o e).2) h0 Q _ hq) (λs' kp i j hi hj Q hq=>hlt s' (λb o e=>kp b o (keep b o e).1 (keep b o e).2) i j hi hj Q hq) λp a1 a2=>⟨p,rfl,a1,a2,rfl⟩
  ·have e0:vs=[]:=ow.mp ⋯;subst e0;exact uB hoL ⟨[],rfl,jr _,j9,rfl⟩
 refine ji tree (λr s' hr=>?_) λ_ _ x=>x;let⟨p,rfl,a1,a2,rfl⟩:=hr;refine⟨_,rfl,af ⟨_,rfl,?_⟩⟩;let⟨e,he⟩:=sortedHeap_at (h:=s1.heap.push (seqObj "list" vs.toArray 0)) (out:=(p.map λi=>vs.getD i cx).toArray) hoL;exact fin p _ e a1 a2 (λb o q=>(sortedHeap_old (keep b o q).1 (by rw[size_push'];exact Nat.lt_succ_of_lt (bf q))).trans (keep b o q).2) he
end
def C6(H:Hp)(ps:ue (t7×ue V)):Hp:=λb=>match ps.lookup b with
 |some xs=>a_ (.tup xs)
 |none=>H b
theorem vP{κ:Type}{x:t7}{k:κ}:∀{l:ue (t7×κ)},l.lookup x=a_ k->(x,k)∈l
 |[],h=>by simp at h
 |(n,v)::r,h=>by
  by_cases hx:x=n
  ·subst hx;simp only[df,beq_self_eq_true]at h;cases h
   exact aw
  ·have:(x == n)=false:=by simpa using hx
   simp only[df,this]at h;exact aj _ (vP h)
theorem rO{κ:Type}:∀{l:ue (t7×κ)},(∀p∈l,p.1≠x)->l.lookup x=b_
 |[],_=>rfl
 |(n,v)::r,h=>by
  have hx:(x == n)=false:=by have:=h (n,v) aw;simpa using λe:x=n=>this e.symm
  simp only[df,hx];exact rO λp hp=>h p (aj _ hp)
def E3(h:∀p∈ps,p.1≠b):C6 H ps b=H b:=by unfold C6;rw[rO h]
theorem E4:∀{ps:ue (t7×ue V)}{j:Nat}{a:t7}{xs:ue V},(ps.map (·.1)).Nodup->ps[j]?=a_ (a,xs)->C6 H ps a=a_ (.tup xs)
 |[],_,_,_,_,h=>by simp at h
 |(n,v)::r,0,a,xs,_,h=>by simp at h;let⟨rfl,rfl⟩:=h;unfold C6;simp[df]
 |(n,v)::r,j+1,a,xs,nd,h=>by
  have nd':(n::r.map (·.1)).Nodup:=nd;let⟨n1,n2⟩:=ip.mp nd';have h':r[j]?=a_ (a,xs):=by simpa using h
  have ne:(a == n)=false:=by have:a∈r.map (·.1):=bz.mpr ⟨_,cq h',rfl⟩;simpa using λe:a=n=>n1 (e▸this)
  have ih:=E4 (H:=H) n2 h';unfold C6 at ih⊢;simp only[df,ne];exact ih
section
variable{X:Cx}{pins:g_ 0}{σ:St}{H:Hp}{s:tw}{h':t_}
theorem Inv.laidT{ps:ue (t7×ue V)}{t':Nat}(I:Inv X pins σ H s)(k:∀b u,s.heap.get? b=a_ u->h'.get? b=a_ u)(hp:∀p∈ps,(e_ s)<=p.1)(new:∀p∈ps,p.2.length<=bp/\∃its:ue s_,aR p.2 its/\tQ h' p.1 its.toArray):
  Inv X pins σ (C6 H ps) {s with heap:=h',toks:=t'}:=by
 have nb:∀b,b<(e_ s)->∀p∈ps,p.1≠b:=λb hb p hp' e=>i6 _ (c9 hb (e▸hp p hp'));have old:∀b,b<(e_ s)->C6 H ps b=H b:=λb hb=>E3 (nb b hb);refine I.un ⟨λb u q _ _ _=>k b u q,λb u q _ _ _=>⟨u.slots,k b u q⟩,λb u q n _=>(old b (bf q)).trans n,λb u q _=>⟨u,k b u q⟩,λb xs q=>(old b (I.hok.lt q)).trans q,λb u xs q=>(old b (I.hok.lt q)).trans q,λb ps' q=>⟨#[],by rw[old b (I.hok.lt q),q];simp⟩⟩ ?_;intro b u e;unfold C6 at e;cases q:ps.lookup b with
 |some xs=>
  rw[q]at e;cases e
  let⟨z,its,r,p⟩:=new _ (vP q);exact⟨z,its,r,p⟩
 |none=>rw[q]at e;have hb:=I.hok.lt e;exact(I.hok b u e).stay (λc v _ q=>k c v q) (λc q=>(old c (I.hok.lt q)).trans q) λc xs q=>(old c (I.hok.lt q)).trans q
def B5(I:Inv X pins σ H s)(hp:∀p∈ps,(e_ s)<=p.1):Aa H (C6 H ps):=λb o e=>by have nb:∀p∈ps,p.1≠b:=λp hp' z=>i6 _ (c9 (I.hok.lt e) (z▸hp p hp'));rw[E3 nb];exact e
end
section
variable{X:Cx}
def B6{α:Type}{xs:ue α}{d:α}{p:ue Nat}(h:p.Perm (fg xs.length)):(p.map λi=>xs.getD i d).Perm xs:=by
 have e:(fg xs.length).map (λi=>xs.getD i d)=xs:=by
  apply k7;intro i;by_cases hi:i<xs.length
  ·simp[hi]
  ·simp[hi]
 have:=h.map λi=>xs.getD i d
 rwa[e]at this
theorem uC{vs:ue V}{us:ue s_}(r:aR vs us):∀{p:ue Nat},(∀i∈p,i<vs.length)->aR (p.map λi=>vs.getD i .non) (p.map λi=>us.getD i cx)
 |[],_=>.nil
 |i::p,h=>by
  have hi:=h i aw;have g:vs[i]?=a_ (vs.getD i .non):=by simp[hi]
  let⟨u,hu,hr⟩:=r.get g;have e:us.getD i cx=u:=by simp[av,hu]
  refine .cons ?_ (uC r λj hj=>h j (aj _ hj))
  show RelV (vs.getD i .non) (us.getD i cx)
  rw[e];exact hr
end
end L2
namespace L2
def Af:typeLookup (.type "tuple") "keys" = pure b_:=by rw[typeLookup_type,builtinLookup_eq_fast];kernel_rfl
def dJ:entryFor table "dict.update.loop" = a_ Builtin.«dict.update.loop»:=entryFor_of_tree (by kernel_rfl)
def bG:plainId "dict.update.loop" = true:=by decide +kernel
def Ag{A:t9}{E:f_ 0}{s:tw}{o:Obj}{Q:uf s_->tw->Prop}(hx:s.heap.get? a=a_ o)(hc:o.cls=.type "tuple")(hdat:o.data=.seq xs k)(hd:o.dict=b_)(hA:A.handled=b_)(h:∀h' tk,(∀b u,s.heap.get? b=a_ u->h'.get? b=a_ u)->Q b_ {s with heap:=h',toks:=tk}):m_ prog w A (getAttr? (.ref a) "keys") Q E s:=by
 let⟨c,dct,dat,sl⟩:=o;simp only at hc hdat hd;subst hc hdat hd;let⟨hp,g,d,tk,os⟩:=s;have hT:∀tk',(⟨hp,g,d,tk',os⟩:tw).TypeIs (.ref a) "tuple" := λ_=>⟨_,hx,rfl⟩;have f1:=sub_AttributeError;have f3:=F.slot_tuple_getattribute.lookup;have f4:=F.slot_tuple_getattribute.bind (.ref a);have f5:=am_tuple_getattr_none;unfold getAttr? getAttrBy? getAttrBy
 repeat (any_goals (first|assumption|exact hT _|((with_reducible show wpAny _ _ (call (sx "tuple.__getattribute__") _ _) _ _ _);refine call_meets F.slot_tuple_getattribute (hT _) am_entry_tuple_getattribute (F.args_tuple_getattribute_2 _ _) (meets_getattribute_miss_tuple a xs k sl "keys" _ Af nofun (by size_fits)) ⟨hx,hA,λh' tk' e hx'=>?_⟩)|wp_step))
 let⟨t',u',he⟩:=hx'.there
 show wpAny _ _ (getattributeRaised _ _ _ _ _ _ _) _ _ _
 unfold getattributeRaised
 repeat (any_goals (first|assumption|wp_step))
 exact h _ _ hx'.of.keeps
section
variable{prog:ub}{w:ua}{K:Type}[DecidableEq K]{knd:KeyKind prog w K}{A:t9}{R:j_ Result}
def FX{P:Nat->s_->Prop}{St:Nat->t_->Prop}(W:Walks prog w A.in1 I fp wr n P St)(hd:d∉fp)(ps:ue (t7×K×s_×s_))(hn:ps.length=n)(hP:∀i v,P i v->∃p,ps[i]?=a_ p/\v=.ref p.1)(hT:∀p∈ps,p.1∉wr/\p.1≠d)(hk:∀p∈ps,knd.is p.2.1 p.2.2.1=true)(res:s_):
  ∀(m i:Nat)(s:tw)(kvs:ue (K×s_)),n-i=m->i<=n->St i s.heap->s.heap.DictOf knd d kvs->kvs.length+n<=bp+i->(∀p∈ps,IsTup s.heap p.1 #[p.2.2.1,p.2.2.2])->
  (∀h' tk,h'.DictOf knd d (merged kvs ((ps.drop i).map λp=>(p.2.1,p.2.2.2)))->(∀b o,b≠d->b∉wr->s.heap.get? b=a_ o->h'.get? b=a_ o)->R (.ok (.ret res)) {s with heap:=h',toks:=tk})->
  codeAny (model prog w) A (.builtin "dict.update.loop" ⟨[.ref d,.ref I,rawInt i,res],[]⟩) R s:=by
 have hdw:d∉wr:=λh=>hd (W.sub _ h);intro m
 induction m with
 |zero=>
  intro i s kvs hm hi hst hdt hz hit hR;have hin:i=n:=⋯;subst hin;refine jx dJ ?_;rw[gv bG _]
  show wpAny _ A.in1 (pyNext (.ref I) >>= _) _ _ s
  refine aa (W.done s _ _ hst λh' tk hk'=>?_)
  show wpAny _ A.in1 (r9 d [] >>= _) _ _ _
  have hfin:=hR h' tk (by rw[mf ⋯];let⟨o,es,ep,h1,h2⟩:=hdt;exact⟨o,es,ep,hk' d _ hdw h1,h2⟩) λb o _ hb e=>hk' b o hb e;exact aa (af (af hfin))
 |succ m ih=>
  intro i s kvs hm hi hst hdt hz hit hR;have hlt:i<n:=⋯;refine jx dJ ?_;rw[gv bG _]
  show wpAny _ A.in1 (pyNext (.ref I) >>= _) _ _ s
  refine aa (W.item i s _ _ hlt hst λv h' tk hPv hst' hk'=>?_);let⟨p,hp,rfl⟩:=hP i v hPv;have hpm:=cq hp;let⟨ob,hb1,hb2,nn,hb3⟩:=hit p hpm;have hb1':=hk' _ _ (hT p hpm).1 hb1;have hTy:({s with heap:=h',toks:=tk}:tw).TypeIs (.ref p.1) "tuple" := ⟨ob,hb1',hb2⟩;have hdt':h'.DictOf knd d kvs:=by let⟨o,es,ep,h1,h2⟩:=hdt;exact⟨o,es,ep,hk' d _ hdw h1,h2⟩
  refine aa (fo (aa (wpAny_tryCatch ?_)));unfold ti;refine aa (mz hTy ?_);rw[if_pos nofun];refine aa (kg hb1' hb3 (af ?_))
  show wpAny _ _ (holding [p.2.2.1,p.2.2.2] (dictSet d p.2.2.1 p.2.2.2)) _ _ _
  refine fo (wpAny_dictSet_pairs (hk p hpm) hdt' (hsz:=by omega) λh2 hd2 hs2=>?_);refine af ⟨kz bG _,?_⟩;have st2:St (i+1) h2:=W.frame (i+1) h' h2 hst' λb hb o e=>(hs2.2 b (λz=>hd (z▸hb))).trans e;refine ih (i+1) _ (stored kvs p.2.1 p.2.2.2) ⋯ hlt st2 hd2 ?_ (λq hq=>?_) λh3 tk3 hd3 hk3=>?_
  ·have:=stored_length_le kvs p.2.1 p.2.2.2;omega
  ·let⟨ob',c1,c2⟩:=hit q hq;exact⟨ob',(hs2.2 _ (hT q hq).2).trans (hk' _ _ (hT q hq).1 c1),c2⟩
  ·refine hR h3 tk3 ?_ λb o hb hw e=>hk3 b o hb hw ((hs2.2 b hb).trans (hk' b o hw e));have hdr:ps.drop i=p::ps.drop (i+1):=by let⟨hl,e⟩:=ab.mp hp;rw[d7 hl,e]
   rw[hdr];exact hd3
def wR{E:f_ 0}{s:tw}{o:Obj}{ps:ue (t7×K×s_×s_)}{Q:f_ 0}(hA:A.handled=b_)(hx:s.heap.get? a=a_ o)(hc:o.cls=.type "tuple")(hdat:o.data=.seq (ps.map λp=>dh p.1).toArray k)(hd:o.dict=b_)(hk:∀p∈ps,knd.is p.2.1 p.2.2.1=true)(hit:∀p∈ps,IsTup s.heap p.1 #[p.2.2.1,p.2.2.2])(hz:ps.length<=bp)(h:∀h' tk,h'.DictOf knd (e_ s) (merged [] (ps.map λp=>(p.2.1,p.2.2.2)))->(∀b u,s.heap.get? b=a_ u->h'.get? b=a_ u)->Q (.ref (e_ s)) {s with heap:=h',toks:=tk}):
  m_ prog w A (call (.type "dict") [.ref a]) Q E s:=by
 refine callType_codes (Q₁:=λobj s₁=>obj=.ref (e_ s)/\s₁={s with heap:=s.heap.push {cls:=.type "dict",data:=.dict #[]} }) F.kt_called_dict (F.kt_typeCall_dict_1 _) F.entry_dict_init (kt_code_dict_new _ ⟨rfl,rfl⟩) ?_;rintro obj s₁ ⟨rfl,rfl⟩;have hnew:(s.heap.push {cls:=.type "dict",data:=.dict #[]}).DictOf knd (e_ s) []:=Heap.DictOf.new s.heap;have up:∀b u,s.heap.get? b=a_ u->(s.heap.push {cls:=.type "dict",data:=.dict #[]}).get? b=a_ u:=λb u e=>ae _ e;have hTa:({s with heap:=s.heap.push {cls:=.type "dict",data:=.dict #[]} }:tw).TypeIs (.ref a) "tuple" := ⟨o,up _ _ hx,hc⟩;refine⟨hnew.typeIs,F.args_dict_init_2 _ _,?_⟩;unfold Builtin.«dict.__init__»;refine aa ?_;unfold se;refine aa (m7 hnew.typeIs (show wpAny _ _ (pure (s.heap.objs.size,[dh a])) _ _ _ from af ?_))
 show wpAny _ _ (jy "dict.__init__" (e_ s) (.ref a) [] .none) _ _ _
 unfold jy;refine aa (mz hTa ?_);rw[if_pos nofun];refine aa (Ag (up _ _ hx) hc hdat hd hA λh1 tk1 kp1=>?_);rw[if_pos (by rfl)];refine aa (mq ?_);have ha1:IsTup h1 a (ps.map λp=>dh p.1).toArray:=⟨o,kp1 _ _ (up _ _ hx),hc,k,hdat⟩;refine aa (wpAny_pyIter_tuple (show({s with heap:=h1,toks:=tk1}:tw).heap.IsTuple a _ from ha1) (af ⟨kz bG _,?_⟩))
 have lt0:(e_ s)<h1.objs.size:=by have:=kp1 (e_ s) _ (bo s.heap rfl);exact bf this
 have hlt:∀b u,s.heap.get? b=a_ u->b<(e_ s):=λb u e=>bf e;have ha0:=hlt _ _ hx;refine FX (knd:=knd) (fp:=[h1.objs.size,a]) (wr:=[h1.objs.size]) (n:=(ps.map λp=>dh p.1).toArray.size) (Walks.tuple (A:=A.in1.in1) hA h1.objs.size a (bu (qe ha0 lt0)) (ps.map λp=>dh p.1).toArray) ?_ ps (by simp) (λi v e=>?_) (λp hp=>?_) hk .none _ 0 _ [] (j0 _) (cv _) ?_ ?_ (l_ hz) (λp hp=>?_) λh' tk dd kk=>?_
 ·intro z;rcases bx.mp z with z|z
  ·exact bu lt0 z
  ·exact bu ha0 (cw.mp z).symm
 ·have e':(ps.map λp=>dh p.1)[i]?=a_ v:=by simpa using e
  rw[ar]at e';let⟨p,hp,rfl⟩:=br.mp e';exact⟨p,hp,rfl⟩
 ·let⟨ob,e,_⟩:=hit p hp;have h0:=hlt _ _ e;exact⟨λz=>bu (qe h0 lt0) (cw.mp z),bu h0⟩
 ·refine⟨⟨_,bo _ rfl,rfl,rfl⟩,?_⟩;let⟨ob,e,r⟩:=ha1;exact⟨ob,ae _ e,r⟩
 ·let⟨oo,es,ep,e,r⟩:=hnew;exact⟨oo,es,ep,ae _ (kp1 _ _ e),r⟩
 ·let⟨ob,e,r⟩:=hit p hp;exact⟨ob,ae _ (kp1 _ _ (up _ _ e)),r⟩
 ·refine⟨rfl,h h' tk (l_ dd) λb u e=>?_⟩;have h0:=hlt _ _ e;exact kk b u (bu h0) (λz=>bu (qe h0 lt0) (cw.mp z)) (ae _ (kp1 _ _ (up _ _ e)))
end
section
variable{prog:ub}{w:ua}{A:t9}{E:f_ 0}{s:tw}{v dc it:t7}{oc:Obj}{es:Array n9}{ep:Nat}{ok ov:s_}
def FY{Q:f_ 0}(hv:s.heap.IsItemsView v dc)(h1:s.heap.get? dc=a_ oc)(h2:oc.data=.dict es ep)
  (q:Q (.ref (e_ s)) {s with heap:=s.heap.push {cls:=.type "dict_itemiterator",data:=.fields #[.none,.bool false,.ref dc,.int 0 0,.int es.size 0,.int ep 0,.none,.none]} }):m_ prog w A (pyIter (.ref v)) Q E s:=by
 let⟨ov,g1,g2,g3⟩:=id hv;refine wpAny_pyIter_slot hv.typeIs F.slot_dict_items_iter (ir F.slot_dict_items_iter hv.typeIs F.entry_dict_items_iter (show wpAny _ _ (Builtin.«dict_items.__iter__» _) _ _ _ from ?_) (F.args_dict_items_iter_1 _))
 unfold Builtin.«dict_items.__iter__»;refine aa (af (aa ?_));unfold Builtin.Dict_items.dictOf;refine aa (jf g1 g3 (x:=.ref dc) rfl (af (aa ?_)));unfold Builtin.Dict_items.newIterator;refine aa (oh h1 h2 (aa (wpAny_dictEpoch h1 h2 ?_)));rw[show p8 "dict_itemiterator" = true by decide];simp only[if_true,Builtin.Dict_items.ownedTupleFields,j2,jd,d5,if_false];refine iw (af ⟨_,rfl,"dict_itemiterator",_,⟨_,bo _ rfl,rfl⟩,je.lookup,(by simpa[rawInt] using q)⟩)
def E5(dc:t7)(hd:(dc == j7)=false):MeetsIn prog w (Builtin.«dict.items» ⟨[.ref dc],[]⟩) (λ_ R s=>s.TypeIs (.ref dc) "dict" /\
   R (.ok (.ret (.ref (e_ s)))) {s with heap:=s.heap.push {cls:=.type "dict_items",data:=.fields #[.ref dc]} }):=
 .of_wp λA R s ⟨hT,h⟩=>by
  refine aa ?_;unfold Builtin.Dict.noArgs;refine aa (m7 hT (show wpAny _ _ (pure dc) _ _ s from af (show wpAny _ _ (Builtin.Dict.showsAll dc >>= _) _ _ s from ?_)))
  unfold Builtin.Dict.showsAll;rw[if_neg (show ¬ _ from by rw[hd];decide)]
  refine aa (af (aa (iw (af ⟨_,rfl,h⟩))))
end
structure TOk(bt:Bool)(t:SetTable):Prop where
 dum:t.dummies=#[]
 led:bt=false->t.led=true
 ris:t.plain=true->t.place.toList.Pairwise (· < ·)
end L2
namespace L2
open PySem.SeqAt PySem.W
def iI(b:Bool)(n i:Nat):Nat:=if b then n-1-i else i
def E6(b:Bool)(n:Nat)(p:ue Nat):ue Nat:=katRev b (p.map (iI b n))
def nQ{α:Type}(b:Bool){l:ue α}{d:α}{i:Nat}(hi:i<l.length):(katRev b l).getD i d=l.getD (iI b l.length i) d:=by
 cases b with
 |false=>rfl
 |true=>
  show l.reverse.getD i d=l.getD (l.length-1-i) d
  rw[av,av,List.getElem?_reverse hi]
def jA{b:Bool}{n i:Nat}(h:i<n):iI b n i<n:=by unfold iI;split <;> omega
def FZ{b:Bool}{n:Nat}{p:ue Nat}(h:p.Perm (fg n)):(E6 b n p).Perm (fg n):=by
 cases b with
 |false=>
  have e:E6 false n p=p:=by
   show p.map (λi=>iI false n i)=p
   have:(λi=>iI false n i)=id:=by funext i;rfl
   rw[this,List.map_id]
  rw[e];exact h
 |true=>
  have e:(fg n).map (iI true n)=(fg n).reverse:=by
   apply List.ext_getElem
   ·simp
   ·intro i h1 h2;simp[iI]
  show((p.map (iI true n)).reverse).Perm _
  refine(i7 _).trans ((h.map _).trans ?_);rw[e];exact i7 _
def G0{b:Bool}{n:Nat}{p:ue Nat}{lt:Nat->Nat->Bool}(h:p.Pairwise (λi j=>lt (iI b n j) (iI b n i)=false)):(E6 b n p).Pairwise (λi j=>(if b then lt i j else lt j i)=false):=by
 have h1:(p.map (iI b n)).Pairwise (λi j=>lt j i=false):=i9.mpr h;cases b with
 |false=>exact h1
 |true=>
  show((p.map (iI true n)).reverse).Pairwise _
  rw[i3];exact h1
def Jz{b:Bool}{vs:ue s_}{p:ue Nat}(h:∀i∈p,i<vs.length):katRev b (p.map λi=>(katRev b vs).getD i cx)=(E6 b vs.length p).map λi=>vs.getD i cx:=by
 have e:(p.map λi=>(katRev b vs).getD i cx)=(p.map (iI b vs.length)).map λi=>vs.getD i cx:=by rw[oj];exact o5 λi hi=>nQ b (h i hi)
 rw[e];unfold E6 katRev;split
 ·rw[List.map_reverse]
 ·rfl
def G1{α:Type}(b:Bool)(l:ue α):katRev b (katRev b l)=l:=by unfold katRev;split <;> simp
def range_getD(vs:ue s_):((fg vs.length).map λi=>vs.getD i cx)=vs:=by
 apply k7;intro i;by_cases hi:i<vs.length
 ·simp[hi]
 ·simp[hi]
section
variable{prog:ub}{w:ua}{A:t9}{E:f_ 0}{s:tw}{a kS:t7}{b:Bool}{vs ks:ue s_}
def RK{st:SortSt}{e e1:Nat}{out:ue s_}{P:PySem.Fin->tw->Prop}(hout:(arrOf st).map (·.2)=out.toArray)(hz:out.length<1000000)(hkz:ks.length<1000000)(hf:m4 st=b_)(hka:kS≠a)
  (gk:s.heap.get? kS=a_ (seqObj "list" ks.toArray e)) (ga:s.heap.get? a=a_ (seqObj "list" #[] e1))
  (h:∀(h':t_)(c:Nat),(∀x o,x≠a->x≠kS->s.heap.get? x=a_ o->h'.get? x=a_ o)->h'.get? a=a_ (seqObj "list" (katRev b out).toArray c)->(∃o,h'.get? kS=a_ o)->P (.done (.ret .none)) {s with heap:=h'}):
  m_ prog w A (ksk_tail a b e1 (.ref kS) st) P E s:=by
 have w1:=ik s.heap kS (fc λ_=>(#[]:Array s_));obtain⟨ck,hck⟩:∃ck,(s.heap.update kS (fc λ_=>(#[]:Array s_))).get? kS=a_ (seqObj "list" #[] ck):=⟨_,qh gk λ_=>#[]⟩;have ga1:=(w1.2 a hka.symm).trans ga;have w2:=ik (s.heap.update kS (fc λ_=>(#[]:Array s_))) a (fc λ_=>(katRev b out).toArray);obtain⟨c2,hc2⟩:∃c2,((s.heap.update kS (fc λ_=>(#[]:Array s_))).update a (fc λ_=>(katRev b out).toArray)).get? a=a_ (seqObj "list" (katRev b out).toArray c2):=⟨_,qh ga1 λ_=>(katRev b out).toArray⟩;have hsz:(katRev b out).toArray.size=out.length:=by rw[bh,kat_len]
 unfold ksk_tail
 try dsimp only
 rw[hout,kat_outs];refine aa (m6 gk rfl ?_ (by rw[bh,fm];omega) (cv _));refine aa (wpAny_letGo (aa (seqEpoch_at ga1 rfl ?_)));refine aa (m6 ga1 rfl ?_ (cv _) (fv (Nat.le_of_eq hsz) (by rw[fm];omega)));rw[hf];simp only[bne_self_eq_false,d5,if_false];exact af (h _ c2 (λx o h1 h2 q=>(w2.2 x h1).trans ((w1.2 x h2).trans q)) hc2 ⟨_,(w2.2 kS hka).trans hck⟩)
def Xu{e e1:Nat}{κ:kr}{P:PySem.Fin->tw->Prop}(lt:Nat->Nat->Bool)(hl:ks.length=vs.length)(h64:vs.length<1000000)(hka:kS≠a)
  (tr:∀i j k,i<vs.length->j<vs.length->k<vs.length->lt j i=false->lt k j=false->lt k i=false) (as:∀i j,i<vs.length->j<vs.length->lt i j=true->lt j i=false)
  (gk:s.heap.get? kS=a_ (seqObj "list" ks.toArray e)) (ga:s.heap.get? a=a_ (seqObj "list" #[] e1))
  (hk:2<=vs.length->∀(Q:j_ kr) E',Q κ s->m_ prog w A (keyKind' ks.toArray) Q E' s)
  (hlt:∀i j,i<vs.length->j<vs.length->∀Q:j_ Bool,Q (lt i j) s->m_ prog w A (keyLt' κ (ks.getD i cx) (ks.getD j cx)) Q (λ_ _=>False) s)
  (h:∀(p:ue Nat)(h':t_)(c:Nat),p.Perm (fg vs.length)->p.Pairwise (λi j=>(if b then lt i j else lt j i)=false)->(∀x o,x≠a->x≠kS->s.heap.get? x=a_ o->h'.get? x=a_ o)->
   h'.get? a=a_ (seqObj "list" (p.map λi=>vs.getD i cx).toArray c)->(∃o,h'.get? kS=a_ o)->P (.done (.ret .none)) {s with heap:=h'}):
  m_ prog w A (ksk_end a b vs.toArray e1 (.ref kS) ks.toArray) P E s:=by
 have skip:∀t:Sem PySem.Fin,m_ prog w A t P E s->m_ prog w A (if b=true then(do let _ <-rule "list.sort.reverse";t) else t) P E s:=λt ht=>by
  split
  ·exact aa (mq ht)
  ·exact ht
 have hlr:(katRev b ks).length=(katRev b vs).length:=by rw[kat_len,kat_len,hl]
 unfold ksk_end
 try dsimp only
 refine skip _ ?_
 rw[kat_pairs b hl]
 by_cases h2:vs.toArray.size<2
 ·rw[if_pos h2,if_pos h2]
  rw[bh]at h2
  refine aa (af ?_)
  rw[StateT.run_pure]
  refine aa (af ?_)
  try dsimp only
  refine RK (st:=SortSt.mk' general' ((katRev b ks).toArray.zip (katRev b vs).toArray) #[] 7 b_) (out:=katRev b vs) (ks:=ks) ?_ (by rw[kat_len];exact h64) ⋯ rfl hka gk ga λh' c k1 k2 k3=>?_
  ·show((katRev b ks).toArray.zip (katRev b vs).toArray).map (·.2)=(katRev b vs).toArray
   apply qz.mp
   rw[Array.toList_map,ksk_zip]
   show(List.zip _ _).map Prod.snd=_
   rw[List.map_snd_zip (by rw[hlr];exact bq _)]
  ·rw[G1]at k2
   refine h (fg vs.length) h' c (jr _) ?_ k1 (by rw[range_getD];exact k2) k3
   rw[dq]
   intro i j hi hj hij
   simp only[k8]at hi hj
   omega
 ·rw[if_neg h2,if_neg h2]
  rw[bh]at h2
  refine aa (hk ⋯ _ _ ?_)
  refine aa (ji (DW (ks:=katRev b ks) (vs:=katRev b vs) (E:=E) (κ:=κ) hlr (λi j=>lt (iI b vs.length i) (iI b vs.length j))
   (by rw[kat_len];exact λi j k hi hj hk=>tr _ _ _ (jA hi) (jA hj) (jA hk)) (by rw[kat_len];exact λi j hi hj=>as _ _ (jA hi) (jA hj)) (by
    rw[kat_len]
    intro i j hi hj C hC
    rw[nQ b ⋯,nQ b ⋯,hl]
    exact hlt _ _ (jA hi) (jA hj) C hC)) ?_ λ_ _ x=>x)
  rintro⟨⟨⟩,st'⟩ s' ⟨rfl,p,c1,c2,hout,hf⟩
  try dsimp only
  rw[kat_len]at c1
  have hin:∀i∈p,i<vs.length:=λi hi=>by simpa using c1.mem_iff.mp hi
  refine RK (ks:=ks) hout (by rw[aq,c1.length_eq,k8];exact h64) ⋯ hf hka gk ga λh' c k1 k2 k3=>?_
  rw[Jz hin]at k2
  exact h _ h' c (FZ c1) (G0 c2) k1 k2 k3
def G2{P:PySem.Fin->tw->Prop}(ho:s.heap.get? a=a_ (seqObj "list" vs.toArray n))(h64:vs.length<1000000)(J:t7->Nat->ue s_->Nat->tw->Prop)(h0:∀(kS e1:Nat)(h':t_),(∀x o,x≠a->s.heap.get? x=a_ o->h'.get? x=a_ o)->(e_ s)<=kS->h'.get? a=a_ (seqObj "list" #[] e1)->h'.get? kS=a_ (seqObj "list" #[] 0)->J kS e1 [] 0 {s with heap:=h'})(hget:∀kS e1 ks e s',J kS e1 ks e s'->kS≠a/\s'.heap.get? a=a_ (seqObj "list" #[] e1)/\s'.heap.get? kS=a_ (seqObj "list" ks.toArray e))(turn:∀kS e1 ks e s' x,vs[ks.length]?=a_ x->J kS e1 ks e s'->m_ prog w A (call f [x]) (λv s''=>s''.heap.get? kS=a_ (seqObj "list" ks.toArray e)/\∀(h':t_) e',mx kS s''.heap h'->h'.get? kS=a_ (seqObj "list" (ks++[v]).toArray e')->J kS e1 (ks++[v]) e' { s'' with heap:=h'}) (λ_ _=>False) s')(fin:∀kS e1 ks e s',ks.length=vs.length->J kS e1 ks e s'->∃lt:Nat->Nat->Bool,(∀i j k,i<vs.length->j<vs.length->k<vs.length->lt j i=false->lt k j=false->lt k i=false)/\(∀i j,i<vs.length->j<vs.length->lt i j=true->lt j i=false)/\
   (2<=vs.length->∀(Q:j_ kr) E',Q κ s'->m_ prog w A (keyKind' ks.toArray) Q E' s')/\
   (∀i j,i<vs.length->j<vs.length->∀Q:j_ Bool,Q (lt i j) s'->m_ prog w A (keyLt' κ (ks.getD i cx) (ks.getD j cx)) Q (λ_ _=>False) s')/\
   ∀(p:ue Nat)(h':t_)(c:Nat),p.Perm (fg vs.length)->p.Pairwise (λi j=>(if b then lt i j else lt j i)=false)->(∀x o,x≠a->x≠kS->s'.heap.get? x=a_ o->h'.get? x=a_ o)->
   h'.get? a=a_ (seqObj "list" (p.map λi=>vs.getD i cx).toArray c)->(∃o,h'.get? kS=a_ o)->P (.done (.ret .none)) { s' with heap:=h'}):
  m_ prog w A (ksk_tree a f b) P E s:=by
 have ha:a<(e_ s):=bf ho;have w1:=ik s.heap a (fc λ_=>(#[]:Array s_));obtain⟨e1,ho1⟩:∃e1,(s.heap.update a (fc λ_=>(#[]:Array s_))).get? a=a_ (seqObj "list" #[] e1):=⟨_,qh ho λ_=>#[]⟩;unfold ksk_tree;refine aa (listItems_at ho rfl (aa (m6 ho rfl ?_ (by rw[bh,fm];omega) (cv _))));refine aa (seqEpoch_at ho1 rfl (aa (wpAny_newTuple ?_ (by show vs.length<=_;rw[fm];omega))));refine aa (wpAny_newList (fo ?_) (cv _));have hk1:((s.heap.update a (fc λ_=>(#[]:Array s_))).push (seqObj "tuple" vs.toArray 0)).objs.size=(e_ s)+1:=by rw[size_push',q0]
 have J0:=h0 ((s.heap.update a (fc λ_=>(#[]:Array s_))).push (seqObj "tuple" vs.toArray 0)).objs.size e1 (((s.heap.update a (fc λ_=>(#[]:Array s_))).push (seqObj "tuple" vs.toArray 0)).push (seqObj "list" #[] 0))
  (λx o hx q=>ae _ (ae _ ((w1.2 x hx).trans q))) (by rw[hk1];exact Nat.le_succ _) (ae _ (ae _ ho1)) (bo _ rfl)
 show m_ prog w A (ksk_rest a f b vs.toArray e1 (.ref ((s.heap.update a (fc λ_=>(#[]:Array s_))).push (seqObj "tuple" vs.toArray 0)).objs.size)) P E {s with heap:=((s.heap.update a (fc λ_=>(#[]:Array s_))).push (seqObj "tuple" vs.toArray 0)).push (seqObj "list" #[] 0)}
 generalize ((s.heap.update a (fc λ_=>(#[]:Array s_))).push (seqObj "tuple" vs.toArray 0)).objs.size=kS at J0
 revert J0
 generalize ({s with heap:=((s.heap.update a (fc λ_=>(#[]:Array s_))).push (seqObj "tuple" vs.toArray 0)).push (seqObj "list" #[] 0)}:tw)=s0;intro J0;unfold ksk_rest;refine aa (mq ?_)
 first
  |rw[List.forIn_toArray]
  |(rw[<-Array.forIn_toList];simp only[List.toList_toArray])
 refine aa (ksk_fold (λi s'=>∃ks e,ks.length=i/\J kS e1 ks e s') vs 0 s0 ⟨[],0,rfl,J0⟩ ?step ?done)
 case step=>
  rintro j x s' hx ⟨ks,e,hl,hJ⟩;have hj:j<vs.length:=(ab.mp hx).1;have hl':ks.length=j:=⋯;refine aa (wpAny_attempt (ji (turn kS e1 ks e s' x (by rw[hl'];exact hx) hJ) (λv s'' q=>?_) λ_ _ z=>z.elim));let⟨gk,nxt⟩:=q
  try dsimp only
  have w2:=ik s''.heap kS (fc (·.push v));obtain⟨c2,hc2⟩:∃c2,(s''.heap.update kS (fc (·.push v))).get? kS=a_ (seqObj "list" (ks.toArray.push v) c2):=⟨_,qh gk (·.push v)⟩;refine aa (m6 gk rfl ?_ (by rw[bh,fm];omega) (fv (Nat.le_of_eq (Array.size_push ..)) (by rw[bh,fm];omega)));refine af ⟨rfl,ks++[v],c2,by simp;omega,nxt _ c2 w2 ?_⟩;rw[hc2];simp
 case done=>
  rintro s' ⟨ks,e,hl,hJ⟩;have hl':ks.length=vs.length:=⋯;let⟨hka,ga,gk⟩:=hget kS e1 ks e s' hJ;let⟨lt,tr,as,hk,hlt,h⟩:=fin kS e1 ks e s' hl' hJ
  try dsimp only
  refine aa (listItems_at gk rfl ?_);exact Xu (κ:=κ) lt hl' h64 hka tr as gk ga hk hlt h
end
end L2
namespace L2
open PySem.SeqAt
inductive PV where
 |non|bl (b:Bool)|int (i:Int)|str (x:Str)|tup (xs:ue PV)|ref (n:Nat)|ty (n:String)|fl (xs:ue PV)
mutual
def PV.beq:PV->PV->Bool
 |.non,.non=>true
 |.bl a,.bl b=>a == b
 |.int a,.int b=>a == b
 |.str a,.str b=>a == b
 |.tup a,.tup b=>PV.beqs a b
 |.ref a,.ref b=>a == b
 |.ty a,.ty b=>a == b
 |.fl a,.fl b=>PV.beqs a b
 |_,_=>false
def PV.beqs:ue PV->ue PV->Bool
 |[],[]=>true
 |x::xs,y::ys=>PV.beq x y&&PV.beqs xs ys
 |_,_=>false
end
mutual
theorem PV.beq_self:∀x:PV,PV.beq x x=true
 |.non=>rfl
 |.bl a=>by simp[PV.beq]
 |.int a=>by simp[PV.beq]
 |.str a=>by simp[PV.beq]
 |.tup a=>by simp only[PV.beq];exact PV.beqs_self a
 |.ref a=>by simp[PV.beq]
 |.ty a=>by simp[PV.beq]
 |.fl a=>by simp only[PV.beq];exact PV.beqs_self a
theorem PV.beqs_self:∀x:ue PV,PV.beqs x x=true
 |[]=>rfl
 |x::xs=>by simp only[PV.beqs,PV.beq_self x,PV.beqs_self xs,Bool.and_self]
end
mutual
theorem PV.beq_eq:∀{x y:PV},PV.beq x y=true->x=y
 |.non,y,h=>by cases y <;> first|rfl|(simp[PV.beq]at h)
 |.bl a,y,h=>by cases y <;> first|(simp[PV.beq]at h;rw[h])|(simp[PV.beq]at h)
 |.int a,y,h=>by cases y <;> first|(simp[PV.beq]at h;rw[h])|(simp[PV.beq]at h)
 |.str a,y,h=>by cases y <;> first|(simp[PV.beq]at h;rw[h])|(simp[PV.beq]at h)
 |.tup a,y,h=>by
  cases y with
  |tup b=>simp only[PV.beq]at h;rw[PV.beqs_eq h]
  |_=>simp[PV.beq]at h
 |.ref a,y,h=>by cases y <;> first|(simp[PV.beq]at h;rw[h])|(simp[PV.beq]at h)
 |.ty a,y,h=>by cases y <;> first|(simp[PV.beq]at h;rw[h])|(simp[PV.beq]at h)
 |.fl a,y,h=>by
  cases y with
  |fl b=>simp only[PV.beq]at h;rw[PV.beqs_eq h]
  |_=>simp[PV.beq]at h
theorem PV.beqs_eq:∀{x y:ue PV},PV.beqs x y=true->x=y
 |[],y,h=>by cases y <;> first|rfl|(simp[PV.beqs]at h)
 |x::xs,y,h=>by
  cases y with
  |nil=>simp[PV.beqs]at h
  |cons y ys=>simp only[PV.beqs,cg]at h;rw[PV.beq_eq h.1,PV.beqs_eq h.2]
end
instance:DecidableEq PV:=λx y=>match h:PV.beq x y with
 |true=>isTrue (PV.beq_eq h)
 |false=>isFalse λe=>by rw[e,PV.beq_self]at h;cases h
def PV.ky:Nat->PV->Bool
 |_,.int _=>true
 |_,.str _=>true
 |n+1,.tup xs=>xs.all (PV.ky n)
 |_,_=>false
section
variable(w:ua)
mutual
def hsh:PV->Int
 |.int i=>Sa w (.inl i)
 |.str x=>Sa w (.inr x)
 |.tup xs=>reduceHash (ix (wU xs))
 |_=>0
def wU:ue PV->ue Int
 |[]=>[]
 |x::xs=>hsh x::wU xs
end
end
mutual
def drw:PV->Nat
 |.tup xs=>E7 xs+1
 |_=>1
def E7:ue PV->Nat
 |[]=>0
 |x::xs=>drw x+E7 xs
end
mutual
def HR(h:t_):PV->s_->Prop
 |.int i,v=>∃t,v=.int i t
 |.str x,v=>∃t,v=.str x t
 |.tup ps,v=>∃a its,v=.ref a/\IsTup h a its.toArray/\HRs h ps its
 |_,_=>False
def HRs(h:t_):ue PV->ue s_->Prop
 |[],[]=>True
 |p::ps,v::vs=>HR h p v/\HRs h ps vs
 |[],_::_=>False
 |_::_,[]=>False
end
theorem HRs.length:∀{ps:ue PV}{vs:ue s_},HRs h ps vs->ps.length=vs.length
 |[],[],_=>rfl
 |_::_,_::_,r=>congrArg (·+1) (HRs.length r.2)
 |[],_::_,r=>r.elim
 |_::_,[],r=>r.elim
theorem HRs.at:∀{ps:ue PV}{vs:ue s_}{j:Nat}{p:PV},HRs h ps vs->ps[j]?=a_ p->∃v,vs[j]?=a_ v/\HR h p v
 |[],[],_,_,_,e=>by simp at e
 |q::_,v::_,0,p,r,e=>by
  have:q=p:=by simpa using e
  subst this;exact⟨v,rfl,r.1⟩
 |_::ps,_::vs,j+1,p,r,e=>by
  let⟨v,h1,h2⟩:=HRs.at (ps:=ps) (vs:=vs) (j:=j) (p:=p) r.2 (l_ e);exact⟨v,l_ h1,h2⟩
 |[],_::_,_,_,r,_=>r.elim
 |_::_,[],_,_,r,_=>r.elim
def JA(p:IsTup h a x)(q:IsTup h a y):x=y:=by let⟨o,ho,_,n,hd⟩:=p;let⟨o',ho',_,n',hd'⟩:=q;obtain rfl:o=o':=cy (ho.symm.trans ho');rw[hd]at hd';injection hd'
mutual
theorem HR.one{h:t_}:∀{p q:PV}{v:s_},HR h p v->HR h q v->p=q
 |.int i,q,v,r,r'=>by
  let⟨t,rfl⟩:=r;cases q with
  |int j=>let⟨t',e⟩:=r';injection e with e;rw[e]
  |str j=>let⟨t',e⟩:=r';cases e
  |tup j=>let⟨_,_,e,_⟩:=r';cases e
  |_=>exact r'.elim
 |.str i,q,v,r,r'=>by
  let⟨t,rfl⟩:=r;cases q with
  |int j=>let⟨t',e⟩:=r';cases e
  |str j=>let⟨t',e⟩:=r';injection e with e;rw[e]
  |tup j=>let⟨_,_,e,_⟩:=r';cases e
  |_=>exact r'.elim
 |.tup ps,q,v,r,r'=>by
  let⟨a,its,rfl,p,rs⟩:=r;cases q with
  |int j=>let⟨t',e⟩:=r';cases e
  |str j=>let⟨t',e⟩:=r';cases e
  |tup qs=>
   let⟨b,its',e,p',rs'⟩:=r';cases e
   have:its=its':=by simpa using congrArg Array.toList (JA p p')
   subst this;rw[HRs.one rs rs']
  |_=>exact r'.elim
 |.non,_,_,r,_=>r.elim
 |.bl _,_,_,r,_=>r.elim
 |.ref _,_,_,r,_=>r.elim
 |.ty _,_,_,r,_=>r.elim
 |.fl _,_,_,r,_=>r.elim
theorem HRs.one{h:t_}:∀{ps qs:ue PV}{vs:ue s_},HRs h ps vs->HRs h qs vs->ps=qs
 |[],[],[],_,_=>rfl
 |p::ps,q::qs,v::vs,r,r'=>by rw[HR.one r.1 r'.1,HRs.one r.2 r'.2]
 |[],_::_,[],_,r=>r.elim
 |[],_,_::_,r,_=>r.elim
 |_::_,_,[],r,_=>r.elim
 |_::_,[],_::_,_,r=>r.elim
end
def G3{h:t_}{o:Obj}{es ep}(p:IsTup h a x)(ho:h.get? d=a_ o)(hd:o.data=.dict es ep)(hs:mx d h h'):IsTup h' a x:=by
 let⟨q,hq,hc,n,hdt⟩:=p;have ne:a≠d:=by rintro rfl;obtain rfl:q=o:=cy (hq.symm.trans ho);rw[hd]at hdt;cases hdt
 exact⟨q,(hs.2 a ne).trans hq,hc,n,hdt⟩
mutual
theorem HR.keep{h h':t_}(k:∀a x,IsTup h a x->IsTup h' a x):∀{p:PV}{v:s_},HR h p v->HR h' p v
 |.int i,v,r=>r
 |.str i,v,r=>r
 |.tup ps,v,⟨a,its,e,p,rs⟩=>⟨a,its,e,k _ _ p,HRs.keep k rs⟩
 |.non,_,r=>r.elim
 |.bl _,_,r=>r.elim
 |.ref _,_,r=>r.elim
 |.ty _,_,r=>r.elim
 |.fl _,_,r=>r.elim
theorem HRs.keep{h h':t_}(k:∀a x,IsTup h a x->IsTup h' a x):∀{ps:ue PV}{vs:ue s_},HRs h ps vs->HRs h' ps vs
 |[],[],_=>trivial
 |_::_,_::_,r=>⟨HR.keep k r.1,HRs.keep k r.2⟩
 |[],_::_,r=>r.elim
 |_::_,[],r=>r.elim
end
section
variable{prog:ub}{w:ua}
def LA:∀(n:Nat){A:t9}{E:f_ 0}{s:tw}{p:PV}{v:s_}{Q:j_ Int},p.ky n=true->A.units+n<cLine->HR s.heap p v->Q (hsh w p) { s with toks:=s.toks+drw p}->
  m_ prog w A (pyHash v) Q E s:=by
 intro n
 induction n with
 |zero=>
  intro A E s p v Q hk hu r h;cases p with
  |int i=>let⟨t,rfl⟩:=r;exact wpAny_pyHash_int h
  |str i=>let⟨t,rfl⟩:=r;exact wpAny_pyHash_str h
  |_=>cases hk
 |succ n ih=>
  intro A E s p v Q hk hu r h;cases p with
  |int i=>let⟨t,rfl⟩:=r;exact wpAny_pyHash_int h
  |str i=>let⟨t,rfl⟩:=r;exact wpAny_pyHash_str h
  |tup ps=>
   let⟨a,its,rfl,⟨o,ho,hc,m,hd⟩,rs⟩:=r;have hk':∀q∈ps,q.ky n=true:=ay.mp hk;have hT:s.TypeIs (.ref a) "tuple" := ⟨o,ho,hc⟩;unfold pyHash;unfold pyHashByItsType;refine aa (wpAny_cRoomFor_or (.inr (show A.units<cLine by omega)) (aa (km hT F.slot_tuple_hash.lookup ?_)))
   show wpAny _ _ (if((a_ (sx "tuple.__hash__"):uf s_) == a_ cx)=true then _ else _) Q E s
   rw[if_neg (show ¬ _ from by rw[beq_builtin_none];decide)]
   refine aa (km hT F.slot_tuple_hash.lookup (show wpAny _ _ (callSpecialIfBoundUnlessNone? (.ref a) "__hash__" _ >>= _) Q E s from ?_))
   refine aa (wpAny_callSpecialIfBoundUnlessNone?_slot hT F.slot_tuple_hash (ir F.slot_tuple_hash hT F.entry_tuple_hash (show wpAny _ _ (qp (.ref a) >>= _) _ _ s from ?_) (F.args_tuple_hash_1 _)))
   refine aa (wpAny_tupleItemsOf ho hd (aa ?_));rw[<-Array.forIn_toList];refine rg _ (λrest (b:Array Int) s'=>∃left,HRs s.heap left rest/\(∀q∈left,q.ky n=true)/\b.toList++wU w left=wU w ps/\s'.heap=s.heap/\s'={ s with toks:=s'.toks}/\s'.toks+E7 left=s.toks+E7 ps) _ ?turn ?stop _ _ ⟨ps,rs,hk',rfl,rfl,rfl,rfl⟩
   case turn=>
    rintro x rest b s' ⟨left,rl,kl,eb,eh,es,et⟩;cases left with
    |nil=>exact rl.elim
    |cons q left=>
     have r1:HR s'.heap q x:=by rw[eh];exact rl.1
     refine aa (ih (kl q aw) (show A.units+1+n<cLine by omega) r1 (af ?_));refine⟨left,rl.2,λz hz=>kl z (aj _ hz),?_,eh,?_,?_⟩
     ·rw[<-eb];simp[wU]
     ·rw[es]
     ·rw[<-et]
      show s'.toks+drw q+E7 left=s'.toks+(drw q+E7 left)
      omega
   case stop=>
    rintro b s' ⟨left,rl,kl,eb,eh,es,et⟩;cases left with
    |cons q left=>exact rl.elim
    |nil=>
     have eb':b.toList=wU w ps:=by rw[<-eb];simp[wU]
     have et':s'.toks=s.toks+E7 ps:=et
     show wpAny _ _ (retInt (ix b.toList)) _ _ _
     rw[eb',es];refine wpAny_ret_mkInt ?_
     show wpAny _ _ (if(decide (-(2:Int) ^ 63<=ix (wU w ps))&&decide (ix (wU w ps)<2 ^ 63))=true then _ else _) Q E _
     have h':Q (reduceHash (ix (wU w ps))) { s with toks:=s.toks+(E7 ps+1)}:=h;unfold reduceHash at h';rw[et'];by_cases hr:(decide (-(2:Int) ^ 63<=ix (wU w ps))&&decide (ix (wU w ps)<2 ^ 63))=true
     ·rw[if_pos hr]at h'⊢;exact af (by simpa[Nat.add_assoc] using h')
     ·rw[if_neg hr]at h'⊢;exact aa (mq (af (by simpa[Nat.add_assoc] using h')))
  |_=>cases hk
def Tf:∀(n:Nat){A:t9}{s:tw}{p q:PV}{v u:s_},p.ky n=true->q.ky n=true->A.units+n<cLine->HR s.heap p v->HR s.heap q u->RcAt A s v u (decide (p=q)):=by
 intro n
 induction n with
 |zero=>
  intro A s p q v u hp hq hu r r';cases p with
  |int i=>
   let⟨t,rfl⟩:=r;cases q with
   |int j=>let⟨t',rfl⟩:=r';have:=RcAt.int_int (A:=A) (s:=s) i t j t';rwa[show decide (PV.int i=PV.int j)=(i == j) by simp[qi]]
   |str j=>let⟨t',rfl⟩:=r';exact RcAt.int_str i t j t'
   |_=>cases hq
  |str i=>
   let⟨t,rfl⟩:=r;cases q with
   |int j=>let⟨t',rfl⟩:=r';exact RcAt.str_int i t j t'
   |str j=>let⟨t',rfl⟩:=r';have:=RcAt.str_str (A:=A) (s:=s) i t j t';rwa[show decide (PV.str i=PV.str j)=(i == j) by simp[qi]]
   |_=>cases hq
  |_=>cases hp
 |succ n ih=>
  intro A s p q v u hp hq hu r r';cases p with
  |int i=>
   let⟨t,rfl⟩:=r;cases q with
   |int j=>let⟨t',rfl⟩:=r';have:=RcAt.int_int (A:=A) (s:=s) i t j t';rwa[show decide (PV.int i=PV.int j)=(i == j) by simp[qi]]
   |str j=>let⟨t',rfl⟩:=r';exact RcAt.int_str i t j t'
   |tup js=>let⟨b,its,rfl,p',_⟩:=r';exact RcAt.int_tuple i t p' ⋯
   |_=>cases hq
  |str i=>
   let⟨t,rfl⟩:=r;cases q with
   |int j=>let⟨t',rfl⟩:=r';exact RcAt.str_int i t j t'
   |str j=>let⟨t',rfl⟩:=r';have:=RcAt.str_str (A:=A) (s:=s) i t j t';rwa[show decide (PV.str i=PV.str j)=(i == j) by simp[qi]]
   |tup js=>let⟨b,its,rfl,p',_⟩:=r';exact RcAt.str_tuple i t p' ⋯
   |_=>cases hq
  |tup ps=>
   let⟨a,its,rfl,ta,rs⟩:=r;cases q with
   |int j=>let⟨t',rfl⟩:=r';exact RcAt.tuple_int j t' ta ⋯
   |str j=>let⟨t',rfl⟩:=r';exact RcAt.tuple_str j t' ta ⋯
   |tup qs=>
    let⟨b,its',rfl,tb,rs'⟩:=r';have kp:∀z∈ps,z.ky n=true:=ay.mp hp;have kq:∀z∈qs,z.ky n=true:=ay.mp hq;have l1:=rs.length;have l2:=rs'.length;have key:=RcAt.tuples (A:=A) (e:=λj=>match ps[j]?,qs[j]? with|some x,a_ y=>decide (x=y)|_,_=>false) ta tb ⋯ (λj h1 h2=>by
     have h1':j<ps.length:=by simp at h1;omega
     have h2':j<qs.length:=by simp at h2;omega
     have g1:ps[j]?=a_ ps[j]:=by simp[h1']
     have g2:qs[j]?=a_ qs[j]:=by simp[h2']
     let⟨xu,hxu,hru⟩:=rs.at g1;let⟨yu,hyu,hru'⟩:=rs'.at g2;have e1:its.toArray[j]=xu:=by simpa using(ab.mp hxu).2
     have e2:its'.toArray[j]=yu:=by simpa using(ab.mp hyu).2
     rw[e1,e2];simp only[g1,g2];refine mH (ih (kp _ (de h1')) (kq _ (de h2')) (show A.units+1+n<cLine by omega) hru hru') (λev=>?_) (λf t e=>?_)
     ·subst ev;rw[HR.one hru hru'];exact decide_eq_true rfl
     ·subst e;generalize ps[j]=z at hru;cases z with
      |int i=>let⟨_,e⟩:=hru;cases e
      |str i=>let⟨_,e⟩:=hru;cases e
      |tup i=>let⟨_,_,e,_⟩:=hru;cases e
      |_=>exact hru.elim)
    have sz:((fg (min its.toArray.size its'.toArray.size)).all (λj=>match ps[j]?,qs[j]? with|some x,a_ y=>decide (x=y)|_,_=>false)&&its.toArray.size == its'.toArray.size)=decide (PV.tup ps=PV.tup qs):=by
     have a1:its.toArray.size=ps.length:=by simp;omega
     have a2:its'.toArray.size=qs.length:=by simp;omega
     rw[a1,a2,gb];simp only[cg,ay,qt,beq_iff_eq,decide_eq_true_eq,PV.tup.injEq];constructor
     ·rintro⟨hall,hlen⟩;apply List.ext_getElem hlen;intro i hi hi';have:=hall i ⋯;simpa[hi,hi'] using this
     ·rintro rfl;refine⟨λx hx=>?_,rfl⟩;have:x<ps.length:=⋯;simp[this]
    rw[<-sz];exact key
   |_=>cases hq
  |_=>cases hp
theorem HR.noflt(r:HR h p v):∀f t,v≠.float f t:=λf t e=>by
 subst e;cases p with
 |int i=>let⟨_,e⟩:=r;cases e
 |str i=>let⟨_,e⟩:=r;cases e
 |tup i=>let⟨_,_,e,_⟩:=r;cases e
 |_=>exact r.elim
def G4{A:t9}{s:tw}{p q:PV}(hp:p.ky n=true)(hq:q.ky n=true)(hu:A.units+n<cLine)(r:HR s.heap p v)(r':HR s.heap q u):EqAt A s v u (decide (p=q)):=mH (Tf n hp hq hu r r') (λev=>by subst ev;rw[HR.one r r'];exact decide_eq_true rfl) r.noflt
def JB:∀(n m:Nat){A:t9}{E:f_ 0}{s:tw}{p:PV}{v:s_}{Q:j_ Bool},p.ky n=true->n<=m->HR s.heap p v->Q true s->m_ prog w A (eqIsQuiet m v) Q E s:=by
 intro n
 induction n with
 |zero=>
  intro m A E s p v Q hk hm r h;cases p with
  |int i=>let⟨t,rfl⟩:=r;rw[eqIsQuiet_byValue _ rfl];exact af h
  |str i=>let⟨t,rfl⟩:=r;rw[eqIsQuiet_byValue _ rfl];exact af h
  |_=>cases hk
 |succ n ih=>
  intro m A E s p v Q hk hm r h;cases p with
  |int i=>let⟨t,rfl⟩:=r;rw[eqIsQuiet_byValue _ rfl];exact af h
  |str i=>let⟨t,rfl⟩:=r;rw[eqIsQuiet_byValue _ rfl];exact af h
  |tup ps=>
   let⟨a,its,rfl,⟨o,ho,hc,m',hd⟩,rs⟩:=r;have hk':∀q∈ps,q.ky n=true:=ay.mp hk;have hT:s.TypeIs (.ref a) "tuple" := ⟨o,ho,hc⟩;obtain⟨m,rfl⟩:∃j,m=j+1:=⟨m-1,⋯⟩;unfold eqIsQuiet;refine aa (km hT F.slot_tuple_eq.lookup (show wpAny _ _ (isInstance (.ref a) (.type "tuple") >>= _) _ _ s from ?_))
   refine aa (wpAny_isInstance hT isSubtype_tuple_tuple ?_);simp only[Bool.not_true,d5,if_false];refine aa (kg ho hd (aa (show wpAny _ _ (forIn its.toArray _ _) _ _ s from ?_)));rw[<-Array.forIn_toList]
   refine rg _ (λrest r s'=>r.1=b_/\s'=s/\∃left,HRs s.heap left rest/\∀q∈left,q.ky n=true) _ ?_ ?_ _ _ ⟨rfl,rfl,ps,rs,hk'⟩
   ·rintro v rest r s' ⟨hr,rfl,left,rl,kl⟩;cases left with
    |nil=>exact rl.elim
    |cons q left=>refine aa (ih m (kl q aw) ⋯ rl.1 ?_);simp only[Bool.not_true,d5,if_false];exact af ⟨rfl,rfl,left,rl.2,λz hz=>kl z (aj _ hz)⟩
   ·rintro⟨r1,r2⟩ s' ⟨hr,rfl,_⟩;simp only at hr;subst hr;exact af h
  |_=>cases hk
def nR(prog:ub)(w:ua):HeapKind prog w PV where
 is:=λh p a=>p.ky 6=true/\HR h p (.ref a)
 hash:=hsh w
 draws:=drw
 room:=λA=>A.units+6<cLine
 inj:=λx y=>HR.one x.2 y.2
 keeps:=λx ho hd hs=>⟨x.1,HR.keep (λa it p=>G3 p ho hd hs) x.2⟩
 pyHash:=λhu x h=>LA 6 x.1 hu x.2 h
 eqBool:=λhu x y h=>G4 x.1 y.1 hu x.2 y.2 _ _ _ _ h
 quiet:=λx h=>JB 6 8 x.1 ⋯ x.2 h
end
def dDO(w:ua)(a:t7)(ks:ue (PV×t7×V)):HO:=.ext λh=>ks.length<=bp/\(a == j7)=false/\∃xs:ue (PV×t7×s_),
 Paired (λ(p:PV×t7×V)(q:PV×t7×s_)=>p.1=q.1/\p.2.1=q.2.1/\RelV p.2.2 q.2.2) ks xs/\
 ∃o es ep,h.get? a=a_ o/\o.ExactDict/\o.data=.dict es ep/\es.toList=xs.map (λx=>(⟨hsh w x.1,.ref x.2.1,x.2.2⟩:n9))/\(xs.map (·.1)).Nodup
def LB(kd:Nat)(v d:t7):HO:=.ext λh=>match kd with
 |0=>h.IsItemsView v d
 |1=>h.IsValuesView v d
 |_=>∃o,h.get? v=a_ o/\o.cls=.type "dict_keys" /\ o.data=.fields #[.ref d]
end L2
namespace L2
inductive MO where
 |lst (xs:ue PV)
 |dK (kvs:ue (Key×PV))
 |ins (C:Str) (fs:ue (Str×PV))
 |dD (kvs:ue (PV×PV))
 |vw (kd d:Nat)
 |fz (o:MO)
abbrev PH:=ue MO
abbrev Ev:=ue (uf PV)
structure PX where
 cls:Str
 fs:ue (Str×PV)
inductive Rs(α:Type) where
 |ok (a:α) (h:PH)
 |exc (x:PX) (h:PH)
 |bad
inductive Fl where
 |nx (δ:Ev) (h:PH)
 |rt (p:PV) (h:PH)
 |bk (δ:Ev) (h:PH)
 |ct (δ:Ev) (h:PH)
 |exc (x:PX) (h:PH)
 |bad
abbrev Me:=Ev->PH->Rs PV
abbrev Ms:=Ev->PH->Fl
abbrev Fn:=ue PV->PH->Rs PV
def Rs.bind{α β:Type}(r:Rs α)(f:α->PH->Rs β):Rs β:=match r with
 |.ok a h=>f a h
 |.exc x h=>.exc x h
 |.bad=>.bad
@[simp]theorem Rs.bind_ok{α β:Type}(a:α)(h:PH)(f:α->PH->Rs β):(Rs.ok a h).bind f=f a h:=rfl
@[simp]theorem Rs.bind_exc{α β:Type}(x:PX)(h:PH)(f:α->PH->Rs β):(Rs.exc x h:Rs α).bind f=.exc x h:=rfl
@[simp]theorem Rs.bind_bad{α β:Type}(f:α->PH->Rs β):(Rs.bad:Rs α).bind f=.bad:=rfl
structure MC where
 K:ag
 cl:Str->uf t7
 bs:ue Str
 ex:ue t7->Hp->PX->Prop
 w:ua
def SqF(K:ag)(H:Hp)(a:t7)(xs:ue V):Prop:=
 (∃o,H a=a_ (.frz o (.lst xs)))\/
  ∃(o:Obj)(its:Array s_)(n:Nat),K.lookup a=a_ o/\o.cls=.type "list" /\ o.dict=b_/\o.data=.seq its n/\its.size<=bp/\aR xs its.toList
theorem SqF.sq{K:ag}{H:Hp}{a:t7}{xs:ue V}(h:SqF K H a xs):SqL K H a xs:=by
 rcases h with⟨o,h⟩|h
 ·exact .inl (.inr ⟨o,h⟩)
 ·exact .inr h
def Kp(H H':Hp):Prop:=mG H H'/\∀a o u,H a=a_ (.frz o u)->H' a=a_ (.frz o u)
theorem Kp.refl(H:Hp):Kp H H:=⟨mG.refl H,λ_ _ _ h=>h⟩
theorem Kp.trans{H H1 H2:Hp}(a:Kp H H1)(b:Kp H1 H2):Kp H H2:=⟨a.1.trans b.1,λc o u h=>b.2 c o u (a.2 c o u h)⟩
theorem Kp.same(s:Aa H H'):Kp H H':=⟨mG.same s,λ_ _ _ h=>s _ _ h⟩
theorem Kp.new(h:H a=b_):Kp H (upd H a o):=Kp.same (Aa.upd h)
def Kp.upd(h:DZ (H p)):Kp H (upd H p o):=⟨mG.upd h,λa ob u q=>by
 have ne:a≠p:=by rintro rfl;rw[q]at h;exact h
 rw[aV ne];exact q⟩
theorem Kp.lst{H:Hp}{p:t7}{o:HO}{xs:ue V}(h:H p=a_ (.lst xs)):Kp H (L2.upd H p o):=Kp.upd (by rw[h];trivial)
theorem Kp.dK{H:Hp}{p:t7}{o:HO}{xs:ue (Key×V)}(h:H p=a_ (.dK xs)):Kp H (L2.upd H p o):=Kp.upd (by rw[h];trivial)
theorem Kp.sq{K:ag}{H H':Hp}{a:t7}{xs:ue V}(t:Kp H H')(h:SqT K H a xs):SqT K H' a xs:=t.1.sq h
theorem Kp.sf{K:ag}{H H':Hp}{a:t7}{xs:ue V}(t:Kp H H')(h:SqF K H a xs):SqF K H' a xs:=by
 rcases h with⟨o,h⟩|h
 ·exact .inl ⟨o,t.2 _ _ _ h⟩
 ·exact .inr h
section
variable(C:MC)(φ:ue t7)(H:Hp)
mutual
def RV:PV->V->Prop
 |.non,v=>v=.non
 |.bl b,v=>v=.bl b
 |.int i,v=>v=.int i
 |.str x,v=>v=.str x
 |.ty n,v=>v=.ty n
 |.tup ps,v=>∃a vs,v=.ref a/\SqT C.K H a vs/\RVs ps vs
 |.ref n,v=>∃a,v=.ref a/\φ[n]?=a_ a
 |.fl ps,v=>∃a vs,v=.ref a/\SqF C.K H a vs/\RVs ps vs
def RVs:ue PV->ue V->Prop
 |[],[]=>True
 |p::ps,v::vs=>RV p v/\RVs ps vs
 |[],_::_=>False
 |_::_,[]=>False
end
def RKv{κ:Type}:ue (κ×PV)->ue (κ×V)->Prop:=Paired λp q=>p.1=q.1/\RV C φ H p.2 q.2
def RKd:ue (PV×PV)->ue (PV×t7×V)->Prop:=Paired λp q=>p.1=q.1/\p.1.ky 6=true/\RV C φ H p.1 (.ref q.2.1)/\RV C φ H p.2 q.2.2
def RO(a:t7):MO->Prop
 |.lst ps=>∃vs,H a=a_ (.lst vs)/\RVs C φ H ps vs
 |.dK kvs=>∃ks,H a=a_ (.dK ks)/\RKv C φ H kvs ks
 |.ins n fs=>∃c dx ks,C.cl n=a_ c/\H a=a_ (.ins c dx ks)/\RKv C φ H fs ks
 |.dD kvs=>∃ks,H a=a_ (dDO C.w a ks)/\RKd C φ H kvs ks
 |.vw kd d=>∃b,φ[d]?=a_ b/\H a=a_ (LB kd a b)
 |.fz (.dK kvs)=>∃ob ks,H a=a_ (.frz ob (.dK ks))/\RKv C φ H kvs ks
 |.fz (.dD kvs)=>∃ob ks,H a=a_ (.frz ob (dDO C.w a ks))/\RKd C φ H kvs ks
 |.fz _=>False
structure RH(h:PH):Prop where
 len:φ.length=h.length
 nd:φ.Nodup
 at':∀(n:Nat)(a:t7)(o:MO),φ[n]?=some a->h[n]?=some o->RO C φ H a o
def RE(δ:Ev)(σ:St):Prop:=δ.length=σ.length/\∀(i:Nat)(p:PV),δ[i]?=a_ (a_ p)->∃v,σ[i]?=a_ (a_ v)/\RV C φ H p v
end
section
variable{C:MC}{φ φ':ue t7}{H H':Hp}
def jP{α:Type}{l l':ue α}(p:l<+:l'){n:Nat}{a:α}(h:l[n]?=a_ a):l'[n]?=a_ a:=by let⟨t,rfl⟩:=p;have:=(ab.mp h).1;rw[b9 this];exact h
def Kq(H H':Hp):Prop:=mG H H'/\∀a o xs,H a=a_ (.frz o (.lst xs))->H' a=a_ (.frz o (.lst xs))
theorem Kp.q(t:Kp H H'):Kq H H':=⟨t.1,λa o xs h=>t.2 a o _ h⟩
theorem Kq.sq{K:ag}{a:t7}{xs:ue V}(t:Kq H H')(h:SqT K H a xs):SqT K H' a xs:=t.1.sq h
theorem Kq.sf{K:ag}{a:t7}{xs:ue V}(t:Kq H H')(h:SqF K H a xs):SqF K H' a xs:=by
 rcases h with⟨o,h⟩|h
 ·exact .inl ⟨o,t.2 _ _ _ h⟩
 ·exact .inr h
mutual
theorem RV.monoQ(p:φ<+:φ')(t:Kq H H'):∀{x:PV}{v:V},RV C φ H x v->RV C φ' H' x v
 |.non,_,h=>h
 |.bl _,_,h=>h
 |.int _,_,h=>h
 |.str _,_,h=>h
 |.ty _,_,h=>h
 |.tup _,_,⟨a,vs,e,q,r⟩=>⟨a,vs,e,t.sq q,RVs.monoQ p t r⟩
 |.ref _,_,⟨a,e,q⟩=>⟨a,e,jP p q⟩
 |.fl _,_,⟨a,vs,e,q,r⟩=>⟨a,vs,e,t.sf q,RVs.monoQ p t r⟩
theorem RVs.monoQ(p:φ<+:φ')(t:Kq H H'):∀{xs:ue PV}{vs:ue V},RVs C φ H xs vs->RVs C φ' H' xs vs
 |[],[],_=>trivial
 |_::_,_::_,⟨h,r⟩=>⟨RV.monoQ p t h,RVs.monoQ p t r⟩
 |[],_::_,h=>h.elim
 |_::_,[],h=>h.elim
end
theorem RV.mono(p:φ<+:φ')(t:Kp H H')(h:RV C φ H x v):RV C φ' H' x v:=RV.monoQ p t.q h
theorem RVs.mono(p:φ<+:φ')(t:Kp H H')(h:RVs C φ H xs vs):RVs C φ' H' xs vs:=RVs.monoQ p t.q h
theorem RVs.length:∀{xs:ue PV}{vs:ue V},RVs C φ H xs vs->xs.length=vs.length
 |[],[],_=>rfl
 |_::_,_::_,⟨_,r⟩=>by simp[RVs.length r]
 |[],_::_,h=>h.elim
 |_::_,[],h=>h.elim
theorem RVs.get:∀{xs:ue PV}{vs:ue V}{i:Nat}{v:V},RVs C φ H xs vs->vs[i]?=a_ v->∃x,xs[i]?=a_ x/\RV C φ H x v
 |[],[],_,_,_,e=>by simp at e
 |x::_,w::_,0,v,⟨h,_⟩,e=>by
  have:w=v:=by simpa using e
  subst this;exact⟨x,rfl,h⟩
 |_::xs,_::vs,i+1,v,⟨_,r⟩,e=>by
  let⟨x,h1,h2⟩:=RVs.get (xs:=xs) (vs:=vs) (i:=i) (v:=v) r (l_ e);exact⟨x,l_ h1,h2⟩
 |[],_::_,_,_,h,_=>h.elim
 |_::_,[],_,_,h,_=>h.elim
theorem RVs.at:∀{xs:ue PV}{vs:ue V}{i:Nat}{x:PV},RVs C φ H xs vs->xs[i]?=a_ x->∃v,vs[i]?=a_ v/\RV C φ H x v
 |[],[],_,_,_,e=>by simp at e
 |x::_,w::_,0,x',⟨h,_⟩,e=>by
  have:x=x':=by simpa using e
  subst this;exact⟨w,rfl,h⟩
 |_::xs,_::vs,i+1,x,⟨_,r⟩,e=>by
  let⟨v,h1,h2⟩:=RVs.at (xs:=xs) (vs:=vs) (i:=i) (x:=x) r (l_ e);exact⟨v,l_ h1,h2⟩
 |[],_::_,_,_,h,_=>h.elim
 |_::_,[],_,_,h,_=>h.elim
theorem RVs.append:∀{xs ys:ue PV}{vs us:ue V},RVs C φ H xs vs->RVs C φ H ys us->RVs C φ H (xs++ys) (vs++us)
 |[],_,[],_,_,h=>h
 |_::_,_,_::_,_,⟨h,r⟩,h'=>⟨h,RVs.append r h'⟩
 |[],_,_::_,_,h,_=>h.elim
 |_::_,_,[],_,h,_=>h.elim
theorem RVs.snoc(r:RVs C φ H xs vs)(h:RV C φ H x v):RVs C φ H (xs++[x]) (vs++[v]):=r.append ⟨h,trivial⟩
theorem RVs.drop:∀{xs:ue PV}{vs:ue V}(n:Nat),RVs C φ H xs vs->RVs C φ H (xs.drop n) (vs.drop n)
 |_,_,0,h=>h
 |[],[],_+1,_=>trivial
 |_::_,_::_,n+1,⟨_,r⟩=>RVs.drop n r
 |[],_::_,_+1,h=>h.elim
 |_::_,[],_+1,h=>h.elim
theorem RVs.take:∀{xs:ue PV}{vs:ue V}(n:Nat),RVs C φ H xs vs->RVs C φ H (xs.take n) (vs.take n)
 |[],[],0,_=>trivial
 |_::_,_::_,0,_=>trivial
 |[],[],_+1,_=>trivial
 |_::_,_::_,n+1,⟨h,r⟩=>⟨h,RVs.take n r⟩
 |[],_::_,_,h=>h.elim
 |_::_,[],_,h=>h.elim
theorem RVs.set(h:RV C φ H x v):∀{xs:ue PV}{vs:ue V}(n:Nat),RVs C φ H xs vs->RVs C φ H (xs.set n x) (vs.set n v)
 |[],[],_,_=>trivial
 |_::_,_::_,0,⟨_,r⟩=>⟨h,r⟩
 |_::_,_::_,n+1,⟨q,r⟩=>⟨q,RVs.set h n r⟩
 |[],_::_,_,h=>h.elim
 |_::_,[],_,h=>h.elim
theorem RKv.monoQ{κ:Type}(p:φ<+:φ')(t:Kq H H'){x:ue (κ×PV)}{v:ue (κ×V)}(h:RKv C φ H x v):RKv C φ' H' x v:=Paired.mapP h λ_ _ q=>⟨q.1,q.2.monoQ p t⟩
theorem RKd.monoQ(p:φ<+:φ')(t:Kq H H'){x:ue (PV×PV)}{v:ue (PV×t7×V)}(h:RKd C φ H x v):RKd C φ' H' x v:=Paired.mapP h λ_ _ q=>⟨q.1,q.2.1,q.2.2.1.monoQ p t,q.2.2.2.monoQ p t⟩
theorem RKv.mono{κ:Type}(p:φ<+:φ')(t:Kp H H'){x:ue (κ×PV)}{v:ue (κ×V)}(h:RKv C φ H x v):RKv C φ' H' x v:=Paired.mapP h λ_ _ q=>⟨q.1,q.2.mono p t⟩
theorem RKd.mono(p:φ<+:φ')(t:Kp H H')(h:RKd C φ H x v):RKd C φ' H' x v:=Paired.mapP h λ_ _ q=>⟨q.1,q.2.1,q.2.2.1.mono p t,q.2.2.2.mono p t⟩
theorem RE.mono(p:φ<+:φ')(t:Kp H H')(h:RE C φ H δ σ):RE C φ' H' δ σ:=⟨h.1,λi x e=>let ⟨v,q,r⟩:=h.2 i x e;⟨v,q,r.mono p t⟩⟩
theorem RE.set{δ:Ev}{σ:St}(h:RE C φ H δ σ)(r:RV C φ H x v)(i:Nat):RE C φ H (δ.set i (a_ x)) (σ.set i (a_ v)):=by
 refine⟨by rw[qd,qd];exact h.1,λj p e=>?_⟩;by_cases hj:i=j
 ·subst hj;by_cases hl:i<δ.length
  ·rw[j4 hl]at e;cases e
   exact⟨v,by rw[j4 (by rw[<-h.1];exact hl)],r⟩
  ·rw[jm (by rw[qd];omega)]at e;cases e
 ·rw[dr hj]at e;rw[dr hj];exact h.2 j p e
theorem RO.stayQ{a:t7}{o:MO}(p:φ<+:φ')(t:Kq H H')(e:H' a=H a)(h:RO C φ H a o):RO C φ' H' a o:=by
 cases o with
 |lst ps=>let⟨vs,q,r⟩:=h;exact⟨vs,e.trans q,r.monoQ p t⟩
 |dK ps=>let⟨vs,q,r⟩:=h;exact⟨vs,e.trans q,r.monoQ p t⟩
 |ins n fs=>let⟨c,dx,ks,hc,q,r⟩:=h;exact⟨c,dx,ks,hc,e.trans q,r.monoQ p t⟩
 |dD kvs=>let⟨ks,q,r⟩:=h;exact⟨ks,e.trans q,r.monoQ p t⟩
 |vw kd d=>let⟨b,hb,q⟩:=h;exact⟨b,jP p hb,e.trans q⟩
 |fz o=>
  cases o with
  |dK kvs=>let⟨ob,ks,q,r⟩:=h;exact⟨ob,ks,e.trans q,r.monoQ p t⟩
  |dD kvs=>let⟨ob,ks,q,r⟩:=h;exact⟨ob,ks,e.trans q,r.monoQ p t⟩
  |_=>exact h.elim
theorem RO.stay(p:φ<+:φ')(t:Kp H H')(e:H' a=H a)(h:RO C φ H a o):RO C φ' H' a o:=h.stayQ p t.q e
def RO.some{a:t7}{o:MO}(h:RO C φ H a o):∃u,H a=a_ u:=by
 cases o with
 |lst ps=>let⟨vs,q,r⟩:=h;exact⟨_,q⟩
 |dK ps=>let⟨vs,q,r⟩:=h;exact⟨_,q⟩
 |ins n fs=>let⟨c,dx,ks,hc,q,r⟩:=h;exact⟨_,q⟩
 |dD kvs=>let⟨ks,q,r⟩:=h;exact⟨_,q⟩
 |vw kd d=>let⟨b,hb,q⟩:=h;exact⟨_,q⟩
 |fz o=>
  cases o with
  |dK kvs=>let⟨ob,ks,q,r⟩:=h;exact⟨_,q⟩
  |dD kvs=>let⟨ob,ks,q,r⟩:=h;exact⟨_,q⟩
  |_=>exact h.elim
theorem RH.get{h:PH}(r:RH C φ H h){n:Nat}{o:MO}(e:h[n]?=a_ o):∃a,φ[n]?=a_ a/\RO C φ H a o:=by
 have hn:=(ab.mp e).1;have:n<φ.length:=by rw[r.len];exact hn
 exact⟨φ[n],by simp[this],r.at' n _ o (by simp[this]) e⟩
theorem RH.tracked{h:PH}(r:RH C φ H h){n:Nat}{a:t7}(e:φ[n]?=a_ a):∃u,H a=a_ u:=by
 have hn:=(ab.mp e).1;have:n<h.length:=by rw[<-r.len];exact hn
 exact(r.at' n a h[n] e (by simp[this])).some
theorem RH.aside(r:RH C φ H h)(e:H a=b_):RH C φ (upd H a o) h:=⟨r.len,r.nd,λn b ob h1 h2=>by have q:=r.at' n b ob h1 h2;let⟨u,hu⟩:=q.some;exact q.stay (ba) (Kp.new e) (aV (dY hu e))⟩
theorem RH.new{h:PH}(r:RH C φ H h){a:t7}{u:HO}{o:MO}(e:H a=b_)(q:RO C (φ++[a]) (upd H a u) a o):RH C (φ++[a]) (upd H a u) (h++[o]):=by
 refine⟨by simp[r.len],?_,λn b ob h1 h2=>?_⟩
 ·rw[gc];refine⟨r.nd,by simp,λx hx y hy z=>?_⟩;rw[cw]at hy;subst hy z;let⟨n,hn⟩:=ic.mp hx;let⟨u',hu⟩:=r.tracked hn;rw[e]at hu;cases hu
 ·by_cases hn:n<φ.length
  ·rw[b9 hn]at h1;rw[b9 (by rw[<-r.len];exact hn)]at h2;have q':=r.at' n b ob h1 h2;let⟨u',hu⟩:=q'.some;exact q'.stay (fe _ _) (Kp.new e) (aV (dY hu e))
  ·have hn':n=φ.length:=by have:=(ab.mp h1).1;simp at this;omega
   subst hn';rw[au (bq _),r8]at h1;rw[r.len,au (bq _),r8]at h2;cases h1
   cases h2
   exact q
theorem RH.write{h:PH}(r:RH C φ H h)(e:φ[n]?=a_ a)(t:DZ (H a))(q:RO C φ (upd H a u) a o):RH C φ (upd H a u) (h.set n o):=by
 refine⟨by rw[qd];exact r.len,r.nd,λm b ob h1 h2=>?_⟩;by_cases hm:n=m
 ·subst hm;rw[e]at h1;cases h1;have hl:n<h.length:=by rw[<-r.len];exact(ab.mp e).1
  rw[j4 hl]at h2;cases h2
  exact q
 ·rw[dr hm]at h2;have hb:b≠a:=λz=>by subst z;exact hm ((List.getElem?_inj (ab.mp e).1 r.nd).mp (e.trans h1.symm))
  exact(r.at' m b ob h1 h2).stay ba (Kp.upd t) (aV hb)
end
section
variable(C:MC)(φ:ue t7)(H:Hp)
def post(r:Rs PV)(Q:VK):Prop:=match r with
 |.ok p h=>∀φ' v H',φ<+:φ'->Kp H H'->RH C φ' H' h->RV C φ' H' p v->Q v H'
 |.exc x h=>∀φ' H',φ<+:φ'->Kp H H'->RH C φ' H' h->C.ex φ' H' x
 |.bad=>False
def cI(r:Rs Bool)(Q:Bool->Hp->Prop):Prop:=match r with
 |.ok b h=>∀φ' H',φ<+:φ'->Kp H H'->RH C φ' H' h->Q b H'
 |.exc x h=>∀φ' H',φ<+:φ'->Kp H H'->RH C φ' H' h->C.ex φ' H' x
 |.bad=>False
def postA(r:Rs (ue PV))(Q:ue V->Hp->Prop):Prop:=match r with
 |.ok ps h=>∀φ' vs H',φ<+:φ'->Kp H H'->RH C φ' H' h->RVs C φ' H' ps vs->Q vs H'
 |.exc x h=>∀φ' H',φ<+:φ'->Kp H H'->RH C φ' H' h->C.ex φ' H' x
 |.bad=>False
def cJ(r:Fl)(D:Ends):Prop:=match r with
 |.nx δ h=>∀φ' σ H',φ<+:φ'->Kp H H'->RH C φ' H' h->RE C φ' H' δ σ->D.nx σ H'
 |.rt p h=>∀φ' v H',φ<+:φ'->Kp H H'->RH C φ' H' h->RV C φ' H' p v->D.rt v H'
 |.bk δ h=>∀φ' σ H',φ<+:φ'->Kp H H'->RH C φ' H' h->RE C φ' H' δ σ->D.bk σ H'
 |.ct δ h=>∀φ' σ H',φ<+:φ'->Kp H H'->RH C φ' H' h->RE C φ' H' δ σ->D.ct σ H'
 |.exc x h=>∀φ' H',φ<+:φ'->Kp H H'->RH C φ' H' h->C.ex φ' H' x
 |.bad=>False
end
section
variable{C:MC}{φ φ1:ue t7}{H H1:Hp}
theorem post.weak(p:φ<+:φ1)(t:Kp H H1)(h:post C φ H r Q):post C φ1 H1 r Q:=by
 cases r with
 |ok a h'=>exact λφ' v H' p' t'=>h φ' v H' (p.trans p') (t.trans t')
 |exc a h'=>exact λφ' H' p' t'=>h φ' H' (p.trans p') (t.trans t')
 |bad=>exact h
theorem cI.weak{Q:Bool->Hp->Prop}(p:φ<+:φ1)(t:Kp H H1)(h:cI C φ H r Q):cI C φ1 H1 r Q:=by
 cases r with
 |ok a h'=>exact λφ' H' p' t'=>h φ' H' (p.trans p') (t.trans t')
 |exc a h'=>exact λφ' H' p' t'=>h φ' H' (p.trans p') (t.trans t')
 |bad=>exact h
theorem postA.weak{Q:ue V->Hp->Prop}(p:φ<+:φ1)(t:Kp H H1)(h:postA C φ H r Q):postA C φ1 H1 r Q:=by
 cases r with
 |ok a h'=>exact λφ' v H' p' t'=>h φ' v H' (p.trans p') (t.trans t')
 |exc a h'=>exact λφ' H' p' t'=>h φ' H' (p.trans p') (t.trans t')
 |bad=>exact h
theorem cJ.weak{r:Fl}{D:Ends}(p:φ<+:φ1)(t:Kp H H1)(h:cJ C φ H r D):cJ C φ1 H1 r D:=by
 cases r with
 |nx a h'=>exact λφ' v H' p' t'=>h φ' v H' (p.trans p') (t.trans t')
 |rt a h'=>exact λφ' v H' p' t'=>h φ' v H' (p.trans p') (t.trans t')
 |bk a h'=>exact λφ' v H' p' t'=>h φ' v H' (p.trans p') (t.trans t')
 |ct a h'=>exact λφ' v H' p' t'=>h φ' v H' (p.trans p') (t.trans t')
 |exc a h'=>exact λφ' H' p' t'=>h φ' H' (p.trans p') (t.trans t')
 |bad=>exact h
theorem post.imp(h:post C φ H r Q)(i:∀v H',Q v H'->Q' v H'):post C φ H r Q':=by
 cases r with
 |ok a h'=>exact λφ' v H' p t rh rv=>i v H' (h φ' v H' p t rh rv)
 |exc a h'=>exact h
 |bad=>exact h
theorem post.bind{r:Rs PV}{f:PV->PH->Rs PV}(h:post C φ H (r.bind f) Q):post C φ H r λv H1=>∃φ1 p h1,φ<+:φ1/\Kp H H1/\RH C φ1 H1 h1/\RV C φ1 H1 p v/\post C φ1 H1 (f p h1) Q:=by
 cases r with
 |ok a h'=>exact λφ' v H' p t rh rv=>⟨φ',a,h',p,t,rh,rv,post.weak p t h⟩
 |exc a h'=>exact h
 |bad=>exact h
theorem post.bindB{r:Rs PV}{f:PV->PH->Rs Bool}{Q:Bool->Hp->Prop}(h:cI C φ H (r.bind f) Q):post C φ H r λv H1=>∃φ1 p h1,φ<+:φ1/\Kp H H1/\RH C φ1 H1 h1/\RV C φ1 H1 p v/\cI C φ1 H1 (f p h1) Q:=by
 cases r with
 |ok a h'=>exact λφ' v H' p t rh rv=>⟨φ',a,h',p,t,rh,rv,cI.weak p t h⟩
 |exc a h'=>exact h
 |bad=>exact h
theorem cI.bind{r:Rs Bool}{f:Bool->PH->Rs PV}(h:post C φ H (r.bind f) Q):cI C φ H r λb H1=>∃φ1 h1,φ<+:φ1/\Kp H H1/\RH C φ1 H1 h1/\post C φ1 H1 (f b h1) Q:=by
 cases r with
 |ok a h'=>exact λφ' H' p t rh=>⟨φ',h',p,t,rh,post.weak p t h⟩
 |exc a h'=>exact h
 |bad=>exact h
theorem cI.bindB{r:Rs Bool}{f:Bool->PH->Rs Bool}{Q:Bool->Hp->Prop}(h:cI C φ H (r.bind f) Q):cI C φ H r λb H1=>∃φ1 h1,φ<+:φ1/\Kp H H1/\RH C φ1 H1 h1/\cI C φ1 H1 (f b h1) Q:=by
 cases r with
 |ok a h'=>exact λφ' H' p t rh=>⟨φ',h',p,t,rh,cI.weak p t h⟩
 |exc a h'=>exact h
 |bad=>exact h
theorem postA.bind{r:Rs (ue PV)}{f:ue PV->PH->Rs PV}(h:post C φ H (r.bind f) Q):postA C φ H r λvs H1=>∃φ1 ps h1,φ<+:φ1/\Kp H H1/\RH C φ1 H1 h1/\RVs C φ1 H1 ps vs/\post C φ1 H1 (f ps h1) Q:=by
 cases r with
 |ok a h'=>exact λφ' v H' p t rh rv=>⟨φ',a,h',p,t,rh,rv,post.weak p t h⟩
 |exc a h'=>exact h
 |bad=>exact h
theorem postA.bindA{r:Rs (ue PV)}{f:ue PV->PH->Rs (ue PV)}{Q:ue V->Hp->Prop}(h:postA C φ H (r.bind f) Q):postA C φ H r λvs H1=>∃φ1 ps h1,φ<+:φ1/\Kp H H1/\RH C φ1 H1 h1/\RVs C φ1 H1 ps vs/\postA C φ1 H1 (f ps h1) Q:=by
 cases r with
 |ok a h'=>exact λφ' v H' p t rh rv=>⟨φ',a,h',p,t,rh,rv,postA.weak p t h⟩
 |exc a h'=>exact h
 |bad=>exact h
theorem post.bindA{r:Rs PV}{f:PV->PH->Rs (ue PV)}{Q:ue V->Hp->Prop}(h:postA C φ H (r.bind f) Q):post C φ H r λv H1=>∃φ1 p h1,φ<+:φ1/\Kp H H1/\RH C φ1 H1 h1/\RV C φ1 H1 p v/\postA C φ1 H1 (f p h1) Q:=by
 cases r with
 |ok a h'=>exact λφ' v H' p t rh rv=>⟨φ',a,h',p,t,rh,rv,postA.weak p t h⟩
 |exc a h'=>exact h
 |bad=>exact h
theorem post.val(q:post C φ H (.ok p h) Q)(rh:RH C φ H h)(rv:RV C φ H p v):Q v H:=q φ v H ba (Kp.refl H) rh rv
end
end L2
namespace L2
structure Cxt(C:MC)(k:Nat)(X:Cx):Prop where
 K:X.K=C.K
 calm:X.calm=true
 room:gG k X.A
 bn:∀x∈C.bs,X.mg x=none
 w:X.w=C.w
theorem Cxt.hu{X:Cx}(c:Cxt C k X):X.A.units+1<cLine:=Vg c.room
theorem Cxt.hu64{X:Cx}(c:Cxt C k X):X.A.units+64<cLine:=c.room.units
theorem Cxt.comp{X:Cx}(c:Cxt C k X)(sc:Scope)(N:ue Str)(a:t7)(fp:ue t7)(s:tw)(H:Hp):Cxt C k (X.comp sc N a fp s H):=⟨c.K,c.calm,c.room,c.bn,c.w⟩
section
variable(C:MC)
def rd(m:Me):TE:=λσ H Q=>∃φ δ h,RH C φ H h/\RE C φ H δ σ/\post C φ H (m δ h) Q
def rdB(m:Ev->PH->Rs Bool):TT:=λσ H Q=>∃φ δ h,RH C φ H h/\RE C φ H δ σ/\cI C φ H (m δ h) Q
def rdA(m:Ev->PH->Rs (ue PV)):TA:=λσ H Q=>∃φ δ h,RH C φ H h/\RE C φ H δ σ/\postA C φ H (m δ h) Q
def rdS(m:Ms):TS:=λD σ H=>∃φ δ h,RH C φ H h/\RE C φ H δ σ/\cJ C φ H (m δ h) D
def r2(g:PV->PV->PH->Rs PV):R2:=λx y H Q=>∃φ h p q,RH C φ H h/\RV C φ H p x/\RV C φ H q y/\post C φ H (g p q h) Q
def r1(g:PV->PH->Rs PV):V->Hp->VK->Prop:=λx H Q=>∃φ h p,RH C φ H h/\RV C φ H p x/\post C φ H (g p h) Q
def rL(g:ue PV->PH->Rs PV):ue V->Hp->VK->Prop:=λxs H Q=>∃φ h ps,RH C φ H h/\RVs C φ H ps xs/\post C φ H (g ps h) Q
end
variable{C:MC}{k:Nat}{X:Cx}
def SE(C:MC)(k:Nat)(X:Cx)(e:uc)(m:Me):Prop:=Cxt C k X->PE X e (rd C m)
def ST(C:MC)(k:Nat)(X:Cx)(e:uc)(m:Ev->PH->Rs Bool):Prop:=Cxt C k X->PT X e (rdB C m)
def SA(C:MC)(k:Nat)(X:Cx)(es:ue uc)(m:Ev->PH->Rs (ue PV)):Prop:=Cxt C k X->PA X es (rdA C m)
def SSt(C:MC)(k:Nat)(X:Cx)(st:ud)(m:Ms):Prop:=Cxt C k X->PS X st (rdS C m)
def SSs(C:MC)(k:Nat)(X:Cx)(st:ue ud)(m:Ms):Prop:=Cxt C k X->PSs X st (rdS C m)
def OpS(C:MC)(k:Nat)(X:Cx)(f:s_->s_->Sem s_)(g:PV->PV->PH->Rs PV):Prop:=Cxt C k X->OpR X f (r2 C g)
def UnS(C:MC)(k:Nat)(X:Cx)(f:s_->Sem s_)(g:PV->PH->Rs PV):Prop:=Cxt C k X->UnR X f (r1 C g)
def vQ(C:MC)(k:Nat)(X:Cx)(f:s_)(g:ue PV->PH->Rs PV):Prop:=Cxt C k X->iH X f (rL C g)
def eK:Ev->Nat->uf PV
 |[],_=>b_
 |x::_,0=>x
 |_::r,n+1=>eK r n
@[simp]theorem UH(x:uf PV)(r:Ev):eK (x::r) 0=x:=(rfl)
@[simp]theorem UI(x:uf PV)(r:Ev)(n:Nat):eK (x::r) (n+1)=eK r n:=(rfl)
theorem yH:∀{δ:Ev}{i:Nat}{p:PV},eK δ i=a_ p->δ[i]?=a_ (a_ p)
 |[],_,_,h=>by cases h
 |x::_,0,p,h=>by have h':x=a_ p:=h;simp[h']
 |_::r,n+1,p,h=>by rw[fu];exact yH (δ:=r) (i:=n) h
def mV(i:Nat):Me:=λδ h=>match eK δ i with
 |some p=>.ok p h
 |none=>.bad
def mC(p:PV):Me:=λ_ h=>.ok p h
def aB(i:Nat){x:Str}{pos:Pos}(hN:X.N[i]?=a_ x:=by rfl)(hv:Vis X.env.scope x:=by first|exact Or.inl rfl|exact Or.inr (Or.inl rfl)|exact Or.inr (Or.inr rfl))(hd:(x == ("__debug__" : Str))=false:=by decide)
  (hcd:(x == ("__classdict__" : Str))=false:=by decide):SE C k X (.Name x pos) (mV i):=λ_=>by
 refine(KM hN hv hd hcd).imp λσ H Q h=>?_;let⟨φ,δ,h,rh,re,p⟩:=h;unfold mV at p;cases e:eK δ i with
 |none=>rw[e]at p;exact p.elim
 |some x=>rw[e]at p;let⟨v,hv,rv⟩:=re.2 i x (yH e);exact⟨v,hv,p.val rh rv⟩
def aH{i j pos}:SE C k X (.Constant (.int i) j pos) (mC (.int i)):=λ_=>Sh.imp λσ H Q ⟨φ,δ,h,rh,re,p⟩=>p.val rh rfl
def rP{i j pos}:SE C k X (.Constant (.bool i) j pos) (mC (.bl i)):=λ_=>UX.imp λσ H Q ⟨φ,δ,h,rh,re,p⟩=>p.val rh rfl
def LC{j pos}:SE C k X (.Constant .none j pos) (mC .non):=λ_=>Si.imp λσ H Q ⟨φ,δ,h,rh,re,p⟩=>p.val rh rfl
def kL{i j pos}:SE C k X (.Constant (.str i) j pos) (mC (.str i)):=λ_=>Sj.imp λσ H Q ⟨φ,δ,h,rh,re,p⟩=>p.val rh rfl
def aD(g:PV->PV->PH->Rs PV)(ma mb:Me):Me:=λδ h=>(ma δ h).bind λx h1=>(mb δ h1).bind λy h2=>g x y h2
def Ia{g:PV->PV->PH->Rs PV}(h:rd C (aD g ma mb) σ H Q):tOp (r2 C g) (rd C ma) (rd C mb) σ H Q:=by let⟨φ,δ,h,rh,re,p⟩:=h;refine⟨φ,δ,h,rh,re,(post.bind p).imp ?_⟩;rintro v H1 ⟨φ1,x,h1,p1,t1,rh1,rv1,q1⟩;refine⟨φ1,δ,h1,rh1,re.mono p1 t1,(post.bind q1).imp ?_⟩;rintro u H2 ⟨φ2,y,h2,p2,t2,rh2,rv2,q2⟩;exact⟨φ2,h2,x,y,rh2,rv1.mono p2 t2,rv2,q2⟩
section
variable{a b e:uc}{ma mb:Me}{g:PV->PV->PH->Rs PV}{pos:Pos}
def aN(ho:OpS C k X (jc op) g)(ha:SE C k X a ma)(hb:SE C k X b mb):SE C k X (.BinOp a op b pos) (aD g ma mb):=λc=>(V3 (ho c) (ha c) (hb c)).imp λσ H Q h=>Ia h
def Vy(ho:OpS C k X (d6 op) g)(ha:SE C k X a ma)(hb:SE C k X b mb)(hm:behindInMarks op b=false:=by first|exact KW _|rfl):SE C k X (.Compare a [op] [b] pos) (aD g ma mb):=λc=>(OL (ho c) (ha c) (hb c) hm).imp λσ H Q h=>Ia h
def mUn(g:PV->PH->Rs PV)(ma:Me):Me:=λδ h=>(ma δ h).bind g
def Xv{g:PV->PH->Rs PV}(ho:UnS C k X (unaryOp op) g)(ha:SE C k X a ma):SE C k X (.UnaryOp op a pos) (mUn g ma):=λc=>(V4 (ho c) (ha c)).imp λσ H Q h=>by let⟨φ,δ,h,rh,re,p⟩:=h;refine⟨φ,δ,h,rh,re,(post.bind p).imp ?_⟩;rintro v H1 ⟨φ1,x,h1,p1,t1,rh1,rv1,q1⟩;exact⟨φ1,h1,x,rh1,rv1,q1⟩
end
def aS(h:PH)(n:Nat):uf (ue PV):=match h[n]? with
 |some (.lst xs)=>a_ xs
 |_=>b_
def cR{φ:ue t7}{H:Hp}{h:PH}{n:Nat}{xs:ue PV}(rh:RH C φ H h)(e:aS h n=a_ xs):∃a vs,φ[n]?=a_ a/\SqL C.K H a vs/\RVs C φ H xs vs:=by
 unfold aS at e;cases q:h[n]? with
 |none=>rw[q]at e;cases e
 |some o=>
  rw[q]at e;let⟨a,ha,ro⟩:=rh.get q;cases o with
  |lst ys=>cases e;let⟨vs,q',r⟩:=ro;exact⟨a,vs,ha,SqL.of q',r⟩
  |_=>cases e
def fL(h:PH)(n:Nat):uf (ue PV):=match h[n]? with
 |some (.lst xs)=>a_ xs
 |_=>b_
def kM{h:PH}(e:fL h n=a_ xs):h[n]?=a_ (.lst xs):=by
 unfold fL at e;cases q:h[n]? with
 |none=>rw[q]at e;cases e
 |some o=>
  rw[q]at e;cases o with
  |lst ys=>cases e;rfl
  |_=>cases e
def yI(x:PV)(h:PH):uf (ue PV):=match x with
 |.ref n=>aS h n
 |.fl xs=>a_ xs
 |_=>b_
def E8(rh:RH C φ H h)(rv:RV C φ H x v)(e:yI x h=a_ xs):∃a vs,v=.ref a/\SqL C.K H a vs/\RVs C φ H xs vs:=by
 cases x with
 |ref n=>let⟨a,rfl,ha⟩:=rv;let⟨a2,vs,ha2,sa,ra⟩:=cR rh e;rw[ha]at ha2;cases ha2;exact⟨a,vs,rfl,sa,ra⟩
 |fl ys=>
  cases e
  let⟨a,vs,rfl,sa,ra⟩:=rv;exact⟨a,vs,rfl,sa.sq,ra⟩
 |_=>cases e
def RL:ue PV->Bool
 |[]=>true
 |_::_=>false
def LD:PV->PV->PH->Rs PV:=λx y h=>match x,y with
 |.int i,.int j=>.ok (.int (i+j)) h
 |.str i,.str j=>if i.length+j.length<=bp then .ok (.str (i++j)) h else .bad
 |.tup xs,.tup ys=>if RL xs=false/\xs.length+ys.length<=bp then .ok (.tup (xs++ys)) h else .bad
 |.ref a,.ref b=>match fL h a,fL h b with
  |some xs,a_ ys=>if xs.length+ys.length<=bp then .ok (.ref h.length) (h++[.lst (xs++ys)]) else .bad
  |_,_=>.bad
 |_,_=>.bad
theorem post.ite{c:Prop}[Decidable c](h:post C φ H (if c then r else .bad) Q):c/\post C φ H r Q:=by
 by_cases hc:c
 ·rw[if_pos hc]at h;exact⟨hc,h⟩
 ·rw[if_neg hc]at h;exact h.elim
theorem post.lnew{h:PH}(q:post C φ H (.ok (.ref h.length) (h++[.lst xs])) Q)(rh:RH C φ H h)(r:RVs C φ H xs vs)(hp:H p=b_):Q (.ref p) (upd H p (.lst vs)):=q (φ++[p]) (.ref p) _ (fe _ _) (Kp.new hp) (rh.new hp ⟨vs,bE,r.mono (fe _ _) (Kp.new hp)⟩) ⟨p,rfl,by rw[<-rh.len];simp⟩
theorem post.tnew(q:post C φ H (.ok (.tup xs) h) Q)(rh:RH C φ H h)(r:RVs C φ H xs vs)(hp:H p=b_):Q (.ref p) (upd H p (.tup vs)):=q φ (.ref p) _ ba (Kp.new hp) (rh.aside hp) ⟨p,vs,rfl,SqT.of bE,r.mono ba (Kp.new hp)⟩
theorem post.lset{φ:ue t7}{h:PH}(q:post C φ H (.ok p (h.set n (.lst xs))) Q)(rh:RH C φ H h)(e:φ[n]?=a_ a)(hl:H a=a_ (.lst ws))(r:RVs C φ H xs vs)(rv:RV C φ H p v):Q v (upd H a (.lst vs)):=q φ v _ ba (Kp.lst hl) (rh.write e (by rw[hl];trivial) ⟨vs,bE,r.mono ba (Kp.lst hl)⟩) (rv.mono ba (Kp.lst hl))
def LF(r:RVs C φ H xs vs)(h:RL xs=false):vs≠[]:=by
 cases xs with
 |nil=>cases h
 |cons x xs=>
  cases vs with
  |nil=>exact r.elim
  |cons=>intro z;cases z
def Vz:OpS C k X (jc .Add) LD:=λc=>(Pb C.K c.K).imp λx y H Q h=>by
 let⟨φ,h,p,q,rh,rx,ry,po⟩:=h;unfold LD at po;cases p with
 |int i=>
  cases q with
  |int j=>cases rx;cases ry;exact po.val rh rfl
  |_=>exact po.elim
 |str i=>
  cases q with
  |str j=>cases rx;cases ry;exact⟨po.ite.1,po.ite.2.val rh rfl⟩
  |_=>exact po.elim
 |tup xs=>
  cases q with
  |tup ys=>let⟨a,vs,rfl,sa,ra⟩:=rx;let⟨b,us,rfl,sb,rb⟩:=ry;let⟨⟨h1,h2⟩,po⟩:=po.ite;refine .inr ⟨a,b,vs,us,rfl,rfl,sa,sb,LF ra h1,by rw[<-ra.length,<-rb.length];exact h2,λz=>?_,λz p hp=>po.tnew rh (ra.append rb) hp⟩;subst z;have e:ys=[]:=List.eq_nil_of_length_eq_zero rb.length;subst e;exact po.val rh ⟨a,vs,rfl,sa,by rw[dz];exact ra⟩
  |_=>exact po.elim
 |ref n=>
  cases q with
  |ref m=>
   let⟨a,rfl,ha⟩:=rx;let⟨b,rfl,hb⟩:=ry;dsimp only at po;cases e1:fL h n with
   |none=>rw[e1]at po;exact po.elim
   |some xs=>
    cases e2:fL h m with
    |none=>rw[e1,e2]at po;exact po.elim
    |some ys=>rw[e1,e2]at po;let⟨vs,h1,r1⟩:=rh.at' n a _ ha (kM e1);let⟨us,h2,r2⟩:=rh.at' m b _ hb (kM e2);let⟨hz,po⟩:=po.ite;exact .inl ⟨a,b,vs,us,rfl,rfl,h1,h2,by rw[<-r1.length,<-r2.length];exact hz,λp hp=>po.lnew rh (r1.append r2) hp⟩
  |_=>exact po.elim
 |_=>exact po.elim
def vInt(P:Int->Int->Prop)[∀i j,Decidable (P i j)](f:Int->Int->Int):PV->PV->PH->Rs PV:=λx y h=>match x,y with
 |.int i,.int j=>if P i j then .ok (.int (f i j)) h else .bad
 |_,_=>.bad
def Ib{f:s_->s_->Sem s_}{P:Int->Int->Prop}[∀i j,Decidable (P i j)]{g:Int->Int->Int}(ho:OpR X f (B0 P g)):OpS C k X f (vInt P g):=λc=>ho.imp λx y H Q h=>by
 let⟨φ,h,p,q,rh,rx,ry,po⟩:=h;unfold vInt at po;cases p with
 |int i=>
  cases q with
  |int j=>cases rx;cases ry;exact⟨po.ite.1,po.ite.2.val rh rfl⟩
  |_=>exact po.elim
 |_=>exact po.elim
noncomputable instance(i j:Int):Decidable (DB i j):=jw _
noncomputable instance(i j:Int):Decidable (KU i j):=jw _
noncomputable instance(i j:Int):Decidable (Jb i j):=jw _
def Ah:PV->PV->PH->Rs PV:=λx y h=>match x,y with
 |.int i,.int j=>.ok (.int (i-j)) h
 |_,_=>.bad
def Ic:OpS C k X (jc .Sub) Ah:=λc=>Pc.imp λx y H Q h=>by
 let⟨φ,h,p,q,rh,rx,ry,po⟩:=h;unfold Ah at po;cases p with
 |int i=>
  cases q with
  |int j=>cases rx;cases ry;exact po.val rh rfl
  |_=>exact po.elim
 |_=>exact po.elim
noncomputable abbrev G5:=vInt DB λi j=>i*j
noncomputable abbrev jO:=vInt KU λi j=>i/j
abbrev fB:=vInt (λ_ j=>0<j) λi j=>i%j
noncomputable abbrev LG:=vInt Jb λi j=>i ^ j.toNat
def E9:OpS C k X (jc .Mult) G5:=Ib Pd
def kN:OpS C k X (jc .FloorDiv) jO:=Ib Pe
def fM:OpS C k X (jc .Mod) fB:=Ib Pf
def RM:OpS C k X (jc .Pow) LG:=Ib Pg
def Pj:PV->PH->Rs PV:=λx h=>match x with
 |.int i=>.ok (.int (-i)) h
 |_=>.bad
end L2
namespace L2
variable{C:MC}{k:Nat}{X:Cx}
def Ea(f:Int->Int->Bool)(g:ue Nat->ue Nat->Bool):PV->PV->PH->Rs PV:=λx y h=>match x,y with
 |.int i,.int j=>.ok (.bl (f i j)) h
 |.str i,.str j=>.ok (.bl (g i.cps.toList j.cps.toList)) h
 |_,_=>.bad
def RN{f:s_->s_->Sem s_}{p:Int->Int->Bool}{g:ue Nat->ue Nat->Bool}(ho:OpR X f (HX p g)):OpS C k X f (Ea p g):=λc=>ho.imp λx y H Q h=>by
 let⟨φ,h,p,q,rh,rx,ry,po⟩:=h;unfold Ea at po;cases p with
 |int i=>
  cases q with
  |int j=>cases rx;cases ry;exact po.val rh rfl
  |_=>exact po.elim
 |str i=>
  cases q with
  |str j=>cases rx;cases ry;exact po.val rh rfl
  |_=>exact po.elim
 |_=>exact po.elim
abbrev vLt:=Ea (λi j=>decide (i<j)) λi j=>decide (i<j)
abbrev vGt:=Ea (λi j=>decide (j<i)) λi j=>decide (j<i)
abbrev vLe:=Ea (λi j=>decide (i<=j)) λi j=>!decide (j<i)
abbrev vGe:=Ea (λi j=>decide (j<=i)) λi j=>!decide (i<j)
def Xw:OpS C k X (d6 .Lt) vLt:=RN T6
def JC:OpS C k X (d6 .Gt) vGt:=RN T7
mutual
def PV.d:PV->uf D
 |.non=>a_ .non
 |.bl b=>a_ (.bl b)
 |.int i=>d_ i
 |.str x=>a_ (.str x)
 |.tup xs=>match PV.ds xs with
  |some ds=>a_ (.tup ds)
  |none=>b_
 |.ref _=>b_
 |.ty _=>b_
 |.fl _=>b_
def PV.ds:ue PV->uf (ue D)
 |[]=>a_ []
 |x::xs=>match PV.d x,PV.ds xs with
  |some d,a_ ds=>a_ (d::ds)
  |_,_=>b_
end
section
variable{φ:ue t7}{H:Hp}
mutual
theorem RV.rep:∀{x:PV}{d:D}{v:V},RV C φ H x v->x.d=a_ d->Rep C.K H d v
 |.non,_,_,h,e=>by cases e;exact h
 |.bl _,_,_,h,e=>by cases e;exact h
 |.int _,_,_,h,e=>by cases e;exact h
 |.str _,_,_,h,e=>by cases e;exact h
 |.tup xs,d,v,⟨a,vs,e1,q,r⟩,e=>by
  unfold PV.d at e;cases e2:PV.ds xs with
  |none=>rw[e2]at e;cases e
  |some ds=>
   rw[e2]at e;cases e
   exact⟨a,vs,e1,q,RVs.reps r e2⟩
 |.ref _,_,_,_,e=>by cases e
 |.ty _,_,_,_,e=>by cases e
 |.fl _,_,_,_,e=>by cases e
theorem RVs.reps:∀{xs:ue PV}{ds:ue D}{vs:ue V},RVs C φ H xs vs->PV.ds xs=a_ ds->iE C.K H ds vs
 |[],_,[],_,e=>by cases e;trivial
 |x::xs,_,v::vs,⟨h,r⟩,e=>by
  unfold PV.ds at e;cases e1:PV.d x with
  |none=>rw[e1]at e;cases e
  |some d=>
   cases e2:PV.ds xs with
   |none=>rw[e1,e2]at e;cases e
   |some ds=>
    rw[e1,e2]at e;cases e
    exact⟨RV.rep h e1,RVs.reps r e2⟩
 |[],_,_::_,h,_=>h.elim
 |_::_,_,[],h,_=>h.elim
end
end
def C7(x y:PV)(h:PH):uf Bool:=match x.d,y.d with
 |some d,a_ e=>if d.depth<=40 then a_ (eqD d e) else b_
 | _,_=>match yI x h,yI y h with
   |some xs,a_ ys=>match PV.ds xs,PV.ds ys with
    |some ds,a_ es=>if D.depths ds<=40 then a_ (iN ds es) else b_
    |_,_=>b_
   |_,_=>b_
def ofB(o:uf Bool)(h:PH):Rs PV:=match o with
 |some b=>.ok (.bl b) h
 |none=>.bad
def vEq:PV->PV->PH->Rs PV:=λx y h=>ofB (C7 x y h) h
def vNe:PV->PV->PH->Rs PV:=λx y h=>ofB ((C7 x y h).map not) h
def yJ(rh:RH C φ H h)(rx:RV C φ H p x)(ry:RV C φ H q y)(e:C7 p q h=a_ b):
  (∃d e,Rep C.K H d x/\Rep C.K H e y/\d.depth<=40/\b=eqD d e)\/(∃ds es,Jw C.K H ds x/\Jw C.K H es y/\D.depths ds<=40/\b=iN ds es):=by
 unfold C7 at e;split at e
 ·rename_i d e' h1 h2;split at e
  ·rename_i hd;cases e
   exact .inl ⟨d,e',rx.rep h1,ry.rep h2,hd,rfl⟩
  ·cases e
 ·split at e
  ·rename_i xs ys h1 h2;split at e
   ·rename_i ds es h3 h4;split at e
    ·rename_i hd;cases e
     let⟨a',vs,rfl,sa,ra⟩:=E8 rh rx h1;let⟨b'',us,rfl,sb,rb⟩:=E8 rh ry h2;exact .inr ⟨ds,es,⟨a',vs,rfl,sa,ra.reps h3⟩,⟨b'',us,rfl,sb,rb.reps h4⟩,hd,rfl⟩
    ·cases e
   ·cases e
  ·cases e
def post.ofB(q:post C φ H (ofB o h) Q):∃b,o=a_ b/\post C φ H (.ok (.bl b) h) Q:=by
 cases o with
 |none=>exact q.elim
 |some b=>exact⟨b,rfl,q⟩
def Ai:OpS C k X (d6 .Eq) vEq:=λc=>((Ta c.hu64 C.K c.K).or (Tc c.hu64 C.K c.K)).imp λx y H Q h=>by
 let⟨φ,h,p,q,rh,rx,ry,po⟩:=h;let⟨b,e,po⟩:=po.ofB;rcases yJ rh rx ry e with⟨d,e',h1,h2,h3,rfl⟩|⟨d,e',h1,h2,h3,rfl⟩
 ·exact .inl ⟨d,e',h1,h2,h3,po.val rh rfl⟩
 ·exact .inr ⟨d,e',h1,h2,h3,po.val rh rfl⟩
def JD:OpS C k X (d6 .NotEq) vNe:=λc=>((Tb c.hu64 C.K c.K).or (Td c.hu64 C.K c.K)).imp λx y H Q h=>by
 let⟨φ,h,p,q,rh,rx,ry,po⟩:=h;let⟨b,e,po⟩:=po.ofB;cases e0:C7 p q h with
 |none=>rw[e0]at e;cases e
 |some b'=>
  rw[e0]at e;cases e
  rcases yJ rh rx ry e0 with⟨d,e',h1,h2,h3,rfl⟩|⟨d,e',h1,h2,h3,rfl⟩
  ·exact .inl ⟨d,e',h1,h2,h3,po.val rh rfl⟩
  ·exact .inr ⟨d,e',h1,h2,h3,po.val rh rfl⟩
def G6:PV->uf Key
 |.int i=>a_ (.inl i)
 |.str x=>a_ (.inr x)
 |_=>b_
def bQ{κ:Type}[DecidableEq κ]:ue (κ×PV)->κ->uf PV
 |[],_=>b_
 |(a,p)::r,b=>if a=b then a_ p else bQ r b
def JE(h:PH)(n:Nat)(x:PV):uf (uf PV):=match h[n]? with
 |some (.dK kvs)=>match G6 x with
  |some key=>a_ (bQ kvs key)
  |none=>b_
 |_=>b_
def yK(x:PV)(ys:ue PV):uf Bool:=match x.d,PV.ds ys with
 |some d,a_ ds=>if D.depths ds<=40 then a_ (ds.any λe=>eqD e d) else b_
 |_,_=>b_
def JF(x y:PV)(h:PH):uf Bool:=match y with
 |.tup ys=>yK x ys
 |.ref n=>match aS h n with
  |some ys=>yK x ys
  |none=>(JE h n x).map Option.isSome
 |.fl ys=>yK x ys
 |_=>b_
def vIn:PV->PV->PH->Rs PV:=λx y h=>ofB (JF x y h) h
def yL:PV->PV->PH->Rs PV:=λx y h=>ofB ((JF x y h).map not) h
def G7{φ:ue t7}{H:Hp}{x:PV}{v:V}{key:Key}(r:RV C φ H x v)(e:G6 x=a_ key):v=kV key:=by cases x <;> first|(cases e;exact r)|cases e
theorem B7{φ:ue t7}{H:Hp}{κ:Type}[DecidableEq κ]{kvs:ue (κ×PV)}{ks:ue (κ×V)}(r:RKv C φ H kvs ks)(a:κ):match bQ kvs a,nL ks a with
  |some p,a_ v=>RV C φ H p v
  |none,b_=>True
  |_,_=>False:=by
 unfold RKv at r
 induction r with
 |nil=>trivial
 | @cons p q ps qs h t ih=>
  let⟨h1,h2⟩:=h;let⟨pk,pv⟩:=p;by_cases e:pk=a
  ·have e':q.1=a:=h1.symm.trans e;rw[rB e'];unfold bQ;rw[if_pos e];exact h2
  ·have e':¬ q.1=a:=λz=>e (h1.trans z);rw[rC e'];unfold bQ;rw[if_neg e];exact ih
def yM{φ:ue t7}{H:Hp}{h:PH}{n:Nat}{a:t7}{x:PV}{v:V}{o:uf PV}(rh:RH C φ H h)(ha:φ[n]?=a_ a)(rv:RV C φ H x v)(e:JE h n x=a_ o):
  ∃o',tT H a v o'/\o.isSome=o'.isSome/\∀p,o=a_ p->∃w,o'=a_ w/\RV C φ H p w:=by
 unfold JE at e;split at e
 ·rename_i kvs hk;split at e
  ·rename_i key hkey;cases e
   let⟨ks,hH,rk⟩:=rh.at' n a _ ha hk;have q:=B7 rk key;rw[G7 rv hkey];refine⟨nL ks key,tT.k hH,?_,λp hp=>?_⟩
   ·cases e1:bQ kvs key <;> cases e2:nL ks key <;> rw[e1,e2]at q <;> first|rfl|exact q.elim
   ·rw[hp]at q;cases e2:nL ks key with
    |none=>rw[e2]at q;exact q.elim
    |some w=>rw[e2]at q;exact⟨w,rfl,q⟩
  ·cases e
 ·cases e
def yN(rh:RH C φ H h)(rx:RV C φ H p x)(ry:RV C φ H q y)(e:JF p q h=a_ b):
  (∃d a ds vs,y=.ref a/\(SqL C.K H a vs\/SqT C.K H a vs)/\Rep C.K H d x/\iE C.K H ds vs/\D.depths ds<=40/\b=ds.any λe=>eqD e d)\/∃a o,y=.ref a/\tT H a x o/\b=o.isSome:=by
 have go:∀{a:t7}{vs:ue V}{ys:ue PV},(SqL C.K H a vs\/SqT C.K H a vs)->RVs C φ H ys vs->yK p ys=a_ b->∃d a' ds vs,V.ref a=.ref a'/\(SqL C.K H a' vs\/SqT C.K H a' vs)/\Rep C.K H d x/\iE C.K H ds vs/\D.depths ds<=40/\b=ds.any λe=>eqD e d:=by
  intro a vs ys hs hr he;unfold yK at he;split at he
  ·rename_i d ds h1 h2;split at he
   ·rename_i hd;cases he
    exact⟨d,a,ds,vs,rfl,hs,rx.rep h1,hr.reps h2,hd,rfl⟩
   ·cases he
  ·cases he
 unfold JF at e;split at e
 ·let⟨a,vs,rfl,sa,ra⟩:=ry;exact .inl (go (.inr sa) ra e)
 ·rename_i n;let⟨a,rfl,ha⟩:=ry;split at e
  ·rename_i ys hl;let⟨a2,vs,ha2,sa,ra⟩:=cR rh hl;rw[ha]at ha2;cases ha2;exact .inl (go (.inl sa) ra e)
  ·cases e':JE h n p with
   |none=>rw[e']at e;cases e
   |some o=>
    rw[e']at e;cases e
    let⟨o',g,i,_⟩:=yM rh ha rx e';exact .inr ⟨a,o',rfl,g,i⟩
 ·let⟨a,vs,rfl,sa,ra⟩:=ry;exact .inl (go (.inl sa.sq) ra e)
 ·cases e
def Xx:OpS C k X (d6 .In) vIn:=λc=>((Te c.hu64 C.K c.K).or (T8 c.hu C.K c.K)).imp λx y H Q h=>by
 let⟨φ,h,p,q,rh,rx,ry,po⟩:=h;let⟨b,e,po⟩:=po.ofB;rcases yN rh rx ry e with⟨d,a,ds,vs,rfl,h1,h2,h3,h4,rfl⟩|⟨a,o,rfl,g,rfl⟩
 ·exact .inl ⟨d,a,ds,vs,rfl,h1,h2,h3,h4,po.val rh rfl⟩
 ·exact .inr (.inr ⟨a,o,rfl,g,po.val rh rfl⟩)
def Pk:OpS C k X (d6 .NotIn) yL:=λc=>((Jx c.hu64 C.K c.K).or (Ju c.hu C.K c.K)).imp λx y H Q h=>by
 let⟨φ,h,p,q,rh,rx,ry,po⟩:=h;let⟨b,e,po⟩:=po.ofB;cases e':JF p q h with
 |none=>rw[e']at e;cases e
 |some b'=>
  rw[e']at e;cases e
  rcases yN rh rx ry e' with⟨d,a,ds,vs,rfl,h1,h2,h3,h4,rfl⟩|⟨a,o,rfl,g,rfl⟩
  ·exact .inl ⟨d,a,ds,vs,rfl,h1,h2,h3,h4,po.val rh rfl⟩
  ·exact .inr (.inr ⟨a,o,rfl,g,po.val rh rfl⟩)
def mI:PV->Bool
 |.non=>true
 |_=>false
def vIs:PV->PV->PH->Rs PV:=λx y h=>match y with
 |.non=>.ok (.bl (mI x)) h
 |.bl b=>match x with
  |.bl a=>.ok (.bl (a == b)) h
  |_=>.bad
 |_=>.bad
def LH:PV->PV->PH->Rs PV:=λx y h=>match y with
 |.non=>.ok (.bl (!mI x)) h
 |.bl b=>match x with
  |.bl a=>.ok (.bl (!(a == b))) h
  |_=>.bad
 |_=>.bad
theorem RV.isNon(r:RV C φ H p v):decide (v=.non)=mI p:=by
 cases p with
 |non=>cases r;rfl
 |tup xs=>let⟨a,vs,rfl,_⟩:=r;rfl
 |ref n=>let⟨a,rfl,_⟩:=r;rfl
 |fl xs=>let⟨a,vs,rfl,_⟩:=r;rfl
 |_=>cases r;rfl
def Xy:OpS C k X (d6 .Is) vIs:=λc=>(SF.or (λpins s σ H x y v u Q I rx ry(h:∃a b,x=.bl a/\y=.bl b/\Q (.bl (a == b)) H)=>by let⟨a,b,rfl,rfl,q⟩:=h;cases rx;cases ry;exact PyProof.Rows.is_bool ⟨.bl _,H,I,rfl,q⟩)).imp λx y H Q h=>by
 let⟨φ,h,p,q,rh,rx,ry,po⟩:=h;unfold vIs at po;cases q with
 |non=>
  cases ry
  refine .inl ⟨rfl,?_⟩;rw[rx.isNon];exact po.val rh rfl
 |bl b=>
  cases p with
  |bl a=>cases rx;cases ry;exact .inr ⟨a,b,rfl,rfl,po.val rh rfl⟩
  |_=>exact po.elim
 |_=>exact po.elim
def tru(x:PV)(h:PH):Rs Bool:=match x with
 |.non=>.ok false h
 |.bl b=>.ok b h
 |.int i=>.ok (i != 0) h
 |.str y=>if y.length<=bp then .ok ((y.length:Int) != 0) h else .bad
 |.tup xs=>.ok (!xs.isEmpty) h
 |.ref n=>match aS h n with
  |some xs=>.ok (!xs.isEmpty) h
  |none=>match h[n]? with
   |some (.dK kvs)=>.ok (!kvs.isEmpty) h
   |_=>.bad
 |.fl xs=>.ok (!xs.isEmpty) h
 |.ty _=>.bad
theorem RVs.isEmpty{xs:ue PV}{vs:ue V}(r:RVs C φ H xs vs):(!vs.isEmpty)=!xs.isEmpty:=by cases xs <;> cases vs <;> first|rfl|exact r.elim
theorem cI.ite{c:Prop}[Decidable c]{Q:Bool->Hp->Prop}(h:cI C φ H (if c then r else .bad) Q):c/\cI C φ H r Q:=by
 by_cases hc:c
 ·rw[if_pos hc]at h;exact⟨hc,h⟩
 ·rw[if_neg hc]at h;exact h.elim
theorem cI.val{Q:Bool->Hp->Prop}(q:cI C φ H (.ok b h) Q)(rh:RH C φ H h):Q b H:=q φ H ba (Kp.refl H) rh
def JG{Q:Bool->Hp->Prop}(rh:RH C φ H h)(rv:RV C φ H p v)(po:cI C φ H (tru p h) Q):∃b,OM C.K v H b/\Q b H:=by
 unfold tru at po;cases p with
 |non=>cases rv;exact⟨_,rfl,po.val rh⟩
 |bl b=>cases rv;exact⟨_,rfl,po.val rh⟩
 |int i=>cases rv;exact⟨_,rfl,po.val rh⟩
 |str y=>cases rv;exact⟨_,⟨po.ite.1,rfl⟩,po.ite.2.val rh⟩
 |tup xs=>let⟨a,vs,rfl,sa,ra⟩:=rv;exact⟨_,.inr (.inl ⟨vs,sa,rfl⟩),by rw[ra.isEmpty];exact po.val rh⟩
 |ref n=>
  let⟨a,rfl,ha⟩:=rv;dsimp only at po;cases e:aS h n with
  |some xs=>rw[e]at po;let⟨a2,vs,ha2,sa,ra⟩:=cR rh e;rw[ha]at ha2;cases ha2;exact⟨_,.inl ⟨vs,sa,rfl⟩,by rw[ra.isEmpty];exact po.val rh⟩
  |none=>
   rw[e]at po;dsimp only at po;split at po
   ·rename_i kvs hk;let⟨ks,hH,rk⟩:=rh.at' n a _ ha hk;refine⟨_,.inr (.inr ⟨ks,hH,rfl⟩),?_⟩;have:(!ks.isEmpty)=!kvs.isEmpty:=by cases rk <;> rfl
    rw[this];exact po.val rh
   ·exact po.elim
 |fl xs=>let⟨a,vs,rfl,sa,ra⟩:=rv;exact⟨_,.inl ⟨vs,sa.sq,rfl⟩,by rw[ra.isEmpty];exact po.val rh⟩
 |ty n=>exact po.elim
end L2
namespace L2
variable{C:MC}{k:Nat}{X:Cx}
def aU(m:Me):Ev->PH->Rs Bool:=λδ h=>(m δ h).bind tru
def LI{Q:Bool->Hp->Prop}(h:rdB C (aU m) σ H Q):rd C m σ H λv H1=>∃b,OM C.K v H1 b/\Q b H1:=by let⟨φ,δ,h,rh,re,p⟩:=h;refine⟨φ,δ,h,rh,re,(post.bindB p).imp ?_⟩;rintro v H1 ⟨φ1,x,h1,p1,t1,rh1,rv1,q1⟩;exact JG rh1 rv1 q1
section
variable{a b e c':uc}{ma mb mc m:Me}{g g':PV->PV->PH->Rs PV}{pos:Pos}{ta tb:Ev->PH->Rs Bool}
def Ie(h:SE C k X e m)(he:∀whole,isTrue e X.env whole=(do let v <-whole;standAt e.pos;holding [v] (truthy v)):=by intro _;rfl):ST C k X e (aU m):=λc=>
 (KZ (h c) he).imp λσ H Q q=>by rw[c.K];exact LI q
def bY(ho:OpS C k X (d6 op) g)(ha:SE C k X a ma)(hb:SE C k X b mb)(hm:behindInMarks op b=false:=by first|exact KW _|rfl):ST C k X (.Compare a [op] [b] pos) (aU (aD g ma mb)):=λc=>by
 intro pins s σ H Q I h;have h:=Ia (LI h);refine wpAny_isTrue_Compare1 (thn (ha c pins s σ H _ I h) λv s1 ⟨x,H1,I1,r1,q1⟩=>thn (hb c pins s1 σ H1 _ I1 q1) λu s2 ⟨y,H2,I2,r2,q2⟩=>thn (ho c pins s2 σ H2 x y v u _ I2 r1 r2 q2) λw s3 ⟨z,H3,I3,r3,q3⟩=>?_) hm;rw[<-c.K]at q3;exact KY pins s3 σ H3 z w Q I3 r3 q3
def VA(z:PV)(h:PH):Rs PV:=match z with
 |.bl b=>.ok (.bl b) h
 |_=>.bad
def Eb(t:Ev->PH->Rs Bool):Ev->PH->Rs Bool:=λδ h=>(t δ h).bind λb h1=>.ok (!b) h1
def kO(ta tb:Ev->PH->Rs Bool):Ev->PH->Rs Bool:=λδ h=>(ta δ h).bind λb h1=>match b with
 |true=>tb δ h1
 |false=>.ok false h1
def JH(ta tb:Ev->PH->Rs Bool):Ev->PH->Rs Bool:=λδ h=>(ta δ h).bind λb h1=>match b with
 |true=>.ok true h1
 |false=>tb δ h1
theorem cI.imp{Q Q':Bool->Hp->Prop}(h:cI C φ H r Q)(i:∀v H',Q v H'->Q' v H'):cI C φ H r Q':=by
 cases r with
 |ok a h'=>exact λφ' H' p t rh=>i a H' (h φ' H' p t rh)
 |exc a h'=>exact h
 |bad=>exact h
def LJ(h:ST C k X e ta):ST C k X (.UnaryOp .Not e pos) (Eb ta):=λc=>(Sm (h c)).imp λσ H Q q=>by let⟨φ,δ,h,rh,re,p⟩:=q;refine⟨φ,δ,h,rh,re,(cI.bindB p).imp ?_⟩;rintro b H1 ⟨φ1,h1,p1,t1,rh1,q1⟩;exact q1.val rh1
def SW(C:MC)(k:Nat)(X:Cx)(e:uc)(m:Ev->PH->Rs Bool):Prop:=Cxt C k X->PW X e (rdB C m)
theorem SW.t(h:SW C k X e ta):ST C k X e ta:=λc=>(h c).pt
theorem PW.imp(h:PW X e t)(i:∀σ H Q,t' σ H Q->t σ H Q):PW X e t':=λw pins s σ H Q I q=>h w pins s σ H Q I (i σ H Q q)
def C8(ha:ST C k X a ta):SW C k X (.BoolOp .And [a] pos) ta:=λc=>OD (ha c)
def VB(ha:ST C k X a ta):SW C k X (.BoolOp .Or [a] pos) ta:=λc=>Sk (ha c)
def w_and{rest:ue uc}(ha:ST C k X a ta)(hb:SW C k X (.BoolOp .And (b::rest) pos) tb):SW C k X (.BoolOp .And (a::b::rest) pos) (kO ta tb):=λc=>PW.imp (Sl (ha c) (hb c)) λσ H Q q=>by
 let⟨φ,δ,h,rh,re,p⟩:=q;refine⟨φ,δ,h,rh,re,(cI.bindB p).imp ?_⟩;rintro b H1 ⟨φ1,h1,p1,t1,rh1,q1⟩;cases b with
 |true=>exact Ld ⟨φ1,δ,h1,rh1,re.mono p1 t1,q1⟩
 |false=>exact Lc (q1.val rh1)
def w_or{rest:ue uc}(ha:ST C k X a ta)(hb:SW C k X (.BoolOp .Or (b::rest) pos) tb):SW C k X (.BoolOp .Or (a::b::rest) pos) (JH ta tb):=λc=>PW.imp (UY (ha c) (hb c)) λσ H Q q=>by
 let⟨φ,δ,h,rh,re,p⟩:=q;refine⟨φ,δ,h,rh,re,(cI.bindB p).imp ?_⟩;rintro b H1 ⟨φ1,h1,p1,t1,rh1,q1⟩;cases b with
 |true=>exact Ld (q1.val rh1)
 |false=>exact Lc ⟨φ1,δ,h1,rh1,re.mono p1 t1,q1⟩
end
theorem RVs.atI(r:RVs C φ H xs vs)(e:L2.atI xs i=a_ x):∃v,L2.atI vs i=a_ v/\RV C φ H x v:=by
 unfold L2.atI at e⊢;rw[<-r.length];cases q:ixN xs.length i with
 |none=>rw[q]at e;cases e
 |some j=>rw[q]at e;exact r.at e
def ofO(o:uf PV)(h:PH):Rs PV:=match o with
 |some p=>.ok p h
 |none=>.bad
def vIx:PV->PV->PH->Rs PV:=λx y h=>match x with
 |.str z=>(match y with
  |.int i=>if z.length<=bp then ofO ((atI z.cps.toList i).map λc=>.str ⟨#[c]⟩) h else .bad
  |_=>.bad)
 |.tup xs=>(match y with
  |.int i=>ofO (atI xs i) h
  |_=>.bad)
 |.fl xs=>(match y with
  |.int i=>ofO (atI xs i) h
  |_=>.bad)
 |.ref n=>(match aS h n with
  |some xs=>(match y with
   |.int i=>ofO (atI xs i) h
   |_=>.bad)
  |none=>(match JE h n y with
   |some o=>ofO o h
   |none=>.bad))
 |_=>.bad
def post.ofO(q:post C φ H (ofO o h) Q):∃p,o=a_ p/\post C φ H (.ok p h) Q:=by
 cases o with
 |none=>exact q.elim
 |some b=>exact⟨b,rfl,q⟩
def VC(h:r2 C vIx x y H Q):Vq C.K x y H Q:=by
 let⟨φ,h,p,q,rh,rx,ry,po⟩:=h;unfold vIx at po;cases p with
 |str z=>
  cases rx
  cases q with
  |int i=>
   cases ry
   let⟨hz,po⟩:=po.ite;let⟨p,e,po⟩:=po.ofO;cases e':atI z.cps.toList i with
   |none=>rw[e']at e;cases e
   |some c=>rw[e']at e;cases e;exact⟨hz,c,e',po.val rh rfl⟩
  |_=>exact po.elim
 |tup xs=>
  let⟨a,vs,rfl,sa,ra⟩:=rx;cases q with
  |int i=>
   cases ry
   let⟨p,e,po⟩:=po.ofO;let⟨v,hv,rv⟩:=ra.atI e;exact .inl ⟨vs,i,v,rfl,.inr sa,hv,po.val rh rv⟩
  |_=>exact po.elim
 |fl xs=>
  let⟨a,vs,rfl,sa,ra⟩:=rx;cases q with
  |int i=>
   cases ry
   let⟨p,e,po⟩:=po.ofO;let⟨v,hv,rv⟩:=ra.atI e;exact .inl ⟨vs,i,v,rfl,.inl sa.sq,hv,po.val rh rv⟩
  |_=>exact po.elim
 |ref n=>
  let⟨a,rfl,ha⟩:=rx;dsimp only at po;cases e:aS h n with
  |some xs=>
   rw[e]at po;let⟨a2,vs,ha2,sa,ra⟩:=cR rh e;rw[ha]at ha2;cases ha2;cases q with
   |int i=>
    cases ry
    let⟨p,e,po⟩:=po.ofO;let⟨v,hv,rv⟩:=ra.atI e;exact .inl ⟨vs,i,v,rfl,.inl sa,hv,po.val rh rv⟩
   |_=>exact po.elim
  |none=>
   rw[e]at po;dsimp only at po;cases e':JE h n q with
   |none=>rw[e']at po;exact po.elim
   |some o=>rw[e']at po;let⟨p,eo,po⟩:=po.ofO;let⟨o',g,_,hp⟩:=yM rh ha ry e';let⟨w,rfl,rw'⟩:=hp p eo;exact .inr ⟨w,g,po.val rh rw'⟩
 |_=>exact po.elim
def pO{prog:ub}{w:ua}{A:t9}{E:f_ 0}{s:tw}{t sl:t7}{items:Array s_}{vl vu:s_}{lo hi:uf Int}{Q:f_ 0}(ht:IsTup s.heap t items)(hs:s.heap.IsSliceOf sl vl vu .none)(pl:IsPart vl lo)(pu:IsPart vu hi)
  (hw:HT.sIx items.size 0 lo=0/\HT.sIx items.size items.size hi=items.size) (h:Q (.ref t) s):m_ prog w A (getItem (.ref t) (.ref sl)) Q E s:=by
 let⟨os,hos,hcs,hds⟩:=id hs;have hTs:s.TypeIs (.ref sl) "slice" := ⟨os,hos,hcs⟩;unfold getItem
 try with_reducible refine fo ?_
 first|refine aa (af ?_)|skip
 refine aa (wpAny_sequenceKey ht.typeIs nofun ?_);refine aa (ju (name:=gf "__getitem__") ht.typeIs gx
  (ir gx ht.typeIs entry_tuple_getitem ?_ (args_tuple_getitem _ _)))
 show wpAny _ _ (qp (.ref t) >>= _) _ _ s
 refine aa (tupleItemsOf_ ht ?_);refine aa (mz hTs ?_);rw[if_pos nofun];refine aa (HT.sliceApplied_gen hs pl pu ?_);have hno:((((HT.sIx items.size 0 lo:Nat):Int) == 0&&(1:Int) == 1&&(HT.sIx items.size items.size hi-HT.sIx items.size 0 lo) == items.size)=true):=by rw[hw.1,hw.2];simp
 show wpAny _ _ (if(((HT.sIx items.size 0 lo:Nat):Int) == 0&&(1:Int) == 1&&(HT.sIx items.size items.size hi-HT.sIx items.size 0 lo) == items.size)=true then _ else _) _ _ s
 rw[if_pos hno];refine aa ?_;unfold Builtin.Tuple.tupleIsExact;refine aa (mz ht.typeIs (af ?_));rw[if_pos nofun];refine aa (mq ?_);exact af ⟨_,rfl,af h⟩
end L2
namespace L2
variable{C:MC}{k:Nat}{X:Cx}
def iF{α:Type}(xs:ue α)(lo hi:uf Int):ue α:=(xs.drop (HT.sIx xs.length 0 lo)).take (HT.sIx xs.length xs.length hi-HT.sIx xs.length 0 lo)
theorem RVs.cut(r:RVs C φ H xs vs)(lo hi:uf Int):RVs C φ H (iF xs lo hi) (DD vs lo hi):=by unfold iF DD;rw[<-r.length];exact(r.drop _).take _
def vSl:PV->uf Int->uf Int->PH->Rs PV:=λx lo hi h=>match x with
 |.str z=>if z.length<=bp then .ok (.str (Txt.slice z lo hi)) h else .bad
 |.tup xs=>.ok (.tup (iF xs lo hi)) h
 |.ref n=>match aS h n with
  |some xs=>.ok (.ref h.length) (h++[.lst (iF xs lo hi)])
  |none=>.bad
 |.fl xs=>.ok (.ref h.length) (h++[.lst (iF xs lo hi)])
 |_=>.bad
def VD(K:ag):V->uf Int->uf Int->Hp->VK->Prop:=λx lo hi H Q=>∃a xs,x=.ref a/\SqT K H a xs/\(HT.sIx xs.length 0 lo=0/\HT.sIx xs.length xs.length hi=xs.length)/\Q (.ref a) H
def LK:SlR X (VD X.K):=by
 intro pins s σ H x v vl vu lo hi sl Q I rx hs pl pu h;let⟨a,xs,rfl,hx,hw,q⟩:=h;cases rx
 let⟨its,r,ht,hz⟩:=I.tuple hx;have hlen:its.toArray.size=xs.length:=by rw[bh];exact r.length.symm
 refine⟨"tuple",_,gx.lookup,ht.typeIs,?_⟩;exact pO ht hs pl pu (by rw[hlen];exact hw) ⟨.ref a,H,I,rfl,q⟩
theorem SlR.imp{r r':V->uf Int->uf Int->Hp->VK->Prop}(h:SlR X r)(i:∀x lo hi H Q,r' x lo hi H Q->r x lo hi H Q):SlR X r':=λpins s σ H x v vl vu lo hi sl Q I rx hs pl pu q=>h pins s σ H x v vl vu lo hi sl Q I rx hs pl pu (i x lo hi H Q q)
def r3(C:MC)(g:PV->uf Int->uf Int->PH->Rs PV):V->uf Int->uf Int->Hp->VK->Prop:=λx lo hi H Q=>∃φ h p,RH C φ H h/\RV C φ H p x/\post C φ H (g p lo hi h) Q
def Tg(hK:X.K=C.K):SlR X (r3 C vSl):=by
 have e:SlR X (λx lo hi H Q=>Vo x lo hi H Q\/Va C.K x lo hi H Q\/Vd C.K x lo hi H Q\/VD C.K x lo hi H Q):=by rw[<-hK];exact T5.or (SQ.or (OU.or LK))
 refine e.imp λx lo hi H Q h=>?_;let⟨φ,h,p,rh,rv,po⟩:=h;unfold vSl at po;cases p with
 |str z=>cases rv;exact .inl ⟨z,rfl,po.ite.1,po.ite.2.val rh rfl⟩
 |tup xs=>
  let⟨a,vs,rfl,sa,ra⟩:=rv;by_cases hw:HT.sIx vs.length 0 lo=0/\HT.sIx vs.length vs.length hi=vs.length
  ·refine .inr (.inr (.inr ⟨a,vs,rfl,sa,hw,po.val rh ⟨a,vs,rfl,sa,?_⟩⟩));have e:iF xs lo hi=xs:=by unfold iF;rw[ra.length,hw.1,hw.2,fq,j0,<-ra.length,o9]
   rw[e];exact ra
  ·exact .inr (.inl ⟨a,vs,rfl,sa,hw,λp hp=>po.tnew rh (ra.cut lo hi) hp⟩)
 |ref n=>
  let⟨a,rfl,ha⟩:=rv;dsimp only at po;cases e:aS h n with
  |none=>rw[e]at po;exact po.elim
  |some xs=>rw[e]at po;let⟨a2,vs,ha2,sa,ra⟩:=cR rh e;rw[ha]at ha2;cases ha2;exact .inr (.inr (.inl ⟨a,vs,rfl,sa,λp hp=>po.lnew rh (ra.cut lo hi) hp⟩))
 |fl xs=>let⟨a,vs,rfl,sa,ra⟩:=rv;exact .inr (.inr (.inl ⟨a,vs,rfl,sa.sq,λp hp=>po.lnew rh (ra.cut lo hi) hp⟩))
 |_=>exact po.elim
abbrev Mo:=Ev->PH->Rs (uf Int)
def vR(C:MC)(φ:ue t7)(H:Hp)(r:Rs (uf Int))(Q:uf Int->Hp->Prop):Prop:=match r with
 |.ok b h=>∀φ' H',φ<+:φ'->Kp H H'->RH C φ' H' h->Q b H'
 |.exc x h=>∀φ' H',φ<+:φ'->Kp H H'->RH C φ' H' h->C.ex φ' H' x
 |.bad=>False
def rdO(C:MC)(m:Mo):TO:=λσ H Q=>∃φ δ h,RH C φ H h/\RE C φ H δ σ/\vR C φ H (m δ h) Q
def SO(C:MC)(k:Nat)(X:Cx)(e:uf uc)(m:Mo):Prop:=Cxt C k X->PO X e (rdO C m)
def Th:Mo:=λ_ h=>.ok b_ h
def mP(m:Me):Mo:=λδ h=>(m δ h).bind λx h1=>match x with
 |.int i=>.ok (a_ i) h1
 |_=>.bad
def Ti:SO C k X b_ Th:=λc pins s σ H Q I h=>by let⟨φ,δ,h,rh,re,p⟩:=h;exact OR pins s σ H Q I (p φ H ba (Kp.refl H) rh)
def yO(h:SE C k X e m):SO C k X (a_ e) (mP m):=λc pins s σ H Q I q=>by
 refine Lv (h c) pins s σ H Q I ?_;let⟨φ,δ,h,rh,re,p⟩:=q;refine⟨φ,δ,h,rh,re,?_⟩;unfold mP at p;cases e':m δ h with
 |ok x h1=>
  rw[e']at p;intro φ' v H' p' t' rh' rv';cases x with
  |int i=>cases rv';exact p φ' H' p' t' rh'
  |_=>exact p.elim
 |exc x h1=>rw[e']at p;exact p
 |bad=>rw[e']at p;exact p
def mSl(me:Me)(ml mh:Mo):Me:=λδ h=>(me δ h).bind λx h1=>(ml δ h1).bind λl h2=>(mh δ h2).bind λu h3=>vSl x l u h3
theorem vR.bind{r:Rs (uf Int)}{f:uf Int->PH->Rs PV}(h:post C φ H (r.bind f) Q):vR C φ H r λb H1=>∃φ1 h1,φ<+:φ1/\Kp H H1/\RH C φ1 H1 h1/\post C φ1 H1 (f b h1) Q:=by
 cases r with
 |ok a h'=>exact λφ' H' p t rh=>⟨φ',h',p,t,rh,post.weak p t h⟩
 |exc a h'=>exact h
 |bad=>exact h
theorem vR.imp{Q Q':uf Int->Hp->Prop}(h:vR C φ H r Q)(i:∀v H',Q v H'->Q' v H'):vR C φ H r Q':=by
 cases r with
 |ok a h'=>exact λφ' H' p t rh=>i a H' (h φ' H' p t rh)
 |exc a h'=>exact h
 |bad=>exact h
def Tj{e:uc}{lo hi:uf uc}{me:Me}{ml mh:Mo}{p2 pos:Pos}(he:SE C k X e me)(hl:SO C k X lo ml)(hh:SO C k X hi mh):SE C k X (.Subscript e (.Slice lo hi b_ p2) pos) (mSl me ml mh):=λc=>(L9 (Tg c.K) (he c) (hl c) (hh c)).imp λσ H Q h=>by let⟨φ,δ,h,rh,re,p⟩:=h;refine⟨φ,δ,h,rh,re,(post.bind p).imp ?_⟩;rintro v H1 ⟨φ1,x,h1,p1,t1,rh1,rv1,q1⟩;refine⟨φ1,δ,h1,rh1,re.mono p1 t1,(vR.bind q1).imp ?_⟩;rintro l H2 ⟨φ2,h2,p2,t2,rh2,q2⟩;refine⟨φ2,δ,h2,rh2,re.mono (p1.trans p2) (t1.trans t2),(vR.bind q2).imp ?_⟩;rintro u H3 ⟨φ3,h3,p3,t3,rh3,q3⟩;exact⟨φ3,h3,x,rh3,rv1.mono (p2.trans p3) (t2.trans t3),q3⟩
abbrev Ma:=Ev->PH->Rs (ue PV)
def aF:Ma:=λ_ h=>.ok [] h
def aA(m:Me)(ms:Ma):Ma:=λδ h=>(m δ h).bind λx h1=>(ms δ h1).bind λxs h2=>.ok (x::xs) h2
theorem PA.imp(h:PA X es t)(i:∀σ H Q,t' σ H Q->t σ H Q):PA X es t':=λpos pins s σ H Q I q=>h pos pins s σ H Q I (i σ H Q q)
def aI:SA C k X [] aF:=λc=>L4.imp λσ H Q h=>by let⟨φ,δ,h,rh,re,p⟩:=h;exact p φ [] H ba (Kp.refl H) rh trivial
theorem postA.imp{Q Q':ue V->Hp->Prop}(h:postA C φ H r Q)(i:∀v H',Q v H'->Q' v H'):postA C φ H r Q':=by
 cases r with
 |ok a h'=>exact λφ' v H' p t rh rv=>i v H' (h φ' v H' p t rh rv)
 |exc a h'=>exact h
 |bad=>exact h
def aC{e:uc}{es:ue uc}{m:Me}{ms:Ma}(he:SE C k X e m)(hs:SA C k X es ms)(hh:da (e::es) X.env=(false,eval e X.env)::da es X.env:=by rfl):SA C k X (e::es) (aA m ms):=λc=>(HG (he c) (hs c) hh).imp λσ H Q h=>by let⟨φ,δ,h,rh,re,p⟩:=h;refine⟨φ,δ,h,rh,re,(post.bindA p).imp ?_⟩;rintro v H1 ⟨φ1,x,h1,p1,t1,rh1,rv1,q1⟩;refine⟨φ1,δ,h1,rh1,re.mono p1 t1,(postA.bindA q1).imp ?_⟩;rintro vs H2 ⟨φ2,xs,h2,p2,t2,rh2,rv2,q2⟩;exact q2 φ2 (v::vs) H2 ba (Kp.refl H2) rh2 ⟨rv1.mono p2 t2,rv2⟩
def bW(ms:Ma):Me:=λδ h=>(ms δ h).bind λxs h1=>if xs.length<=bp then .ok (.tup xs) h1 else .bad
def fU(ms:Ma):Me:=λδ h=>(ms δ h).bind λxs h1=>if xs.length<=bp then .ok (.ref h1.length) (h1++[.lst xs]) else .bad
def cA{es:ue uc}{ms:Ma}{x1}{pos:Pos}(hs:SA C k X es ms):SE C k X (.Tuple es x1 pos) (bW ms):=λc=>(SL (hs c)).imp λσ H Q h=>by let⟨φ,δ,h,rh,re,p⟩:=h;refine⟨φ,δ,h,rh,re,(postA.bind p).imp ?_⟩;rintro vs H1 ⟨φ1,xs,h1,p1,t1,rh1,rv1,q1⟩;exact⟨by rw[<-rv1.length];exact q1.ite.1,λp hp=>q1.ite.2.tnew rh1 rv1 hp⟩
def jQ{es:ue uc}{ms:Ma}{pos:Pos}(hs:SA C k X es ms):SE C k X (.List es pos) (fU ms):=λc=>(SM (hs c)).imp λσ H Q h=>by let⟨φ,δ,h,rh,re,p⟩:=h;refine⟨φ,δ,h,rh,re,(postA.bind p).imp ?_⟩;rintro vs H1 ⟨φ1,xs,h1,p1,t1,rh1,rv1,q1⟩;exact⟨by rw[<-rv1.length];exact q1.ite.1,λp hp=>q1.ite.2.lnew rh1 rv1 hp⟩
def yP:Me:=λ_ h=>.ok (.ref h.length) (h++[.dK []])
def C9:SE C k X (.Dict [] [] pos) yP:=λc=>Lf.imp λσ H Q h=>by let⟨φ,δ,h,rh,re,p⟩:=h;intro a ha;exact p (φ++[a]) (.ref a) _ (fe _ _) (Kp.new ha) (rh.new ha ⟨[],bE,.nil⟩) ⟨a,rfl,by rw[<-rh.len];simp⟩
def mCB(g:ue PV->PH->Rs PV)(ms:Ma):Me:=λδ h=>(ms δ h).bind g
def RP{g:ue PV->PH->Rs PV}(h:rd C (mCB g ms) σ H Q):tCB (rL C g) (rdA C ms) σ H Q:=by let⟨φ,δ,h,rh,re,p⟩:=h;refine⟨φ,δ,h,rh,re,(postA.bind p).imp ?_⟩;rintro vs H1 ⟨φ1,xs,h1,p1,t1,rh1,rv1,q1⟩;exact⟨φ1,h1,xs,rh1,rv1,q1⟩
section
variable{x:Str}{p pos:Pos}{e:uc}{es:ue uc}{ms:Ma}{id T:String}{g:ue PV->PH->Rs PV}
def dW(hc:vQ C k X (.builtin id) g)(hv:qc x=a_ (.builtin id))(ha:SA C k X (e::es) ms)(hb:x∈C.bs:=by decide)(hg:Gl X x:=by rfl)(hn:x≠"__name__" := by decide)(hdb:(x == ("__debug__" : Str))=false:=by decide)
  (he:da (e::es) X.env=(false,eval e X.env)::da es X.env:=by rfl) (hpl:(backTo pos (da es X.env)).any (·.1)=false:=by rfl):SE C k X (.Call (.Name x p) (e::es) [] pos) (mCB g ms):=λc=>
 (L7 (hc c) hg (c.bn x hb) hv (ha c) hn hdb he hpl).imp λσ H Q h=>RP h
def rQ(hc:vQ C k X (.type T) g)(hv:qc x=a_ (.type T))(ha:SA C k X (e::es) ms)(hb:x∈C.bs:=by decide)(hg:Gl X x:=by rfl)(hn:x≠"__name__" := by decide)(hdb:(x == ("__debug__" : Str))=false:=by decide)
  (he:da (e::es) X.env=(false,eval e X.env)::da es X.env:=by rfl) (hpl:(backTo pos (da es X.env)).any (·.1)=false:=by rfl):SE C k X (.Call (.Name x p) (e::es) [] pos) (mCB g ms):=λc=>
 (Jg (hc c) hg (c.bn x hb) hv (ha c) hn hdb he hpl).imp λσ H Q h=>RP h
def spM(C:MC)(n:Nat)(f:Fn):Sp:=λvs H Q _=>∃φ h ps,RH C φ H h/\RVs C φ H ps vs/\ps.length=n/\post C φ H (f ps h) Q
def cG(n:Nat)(f:Fn)(ms:Ma):Me:=λδ h=>(ms δ h).bind λps h1=>if ps.length=n then f ps h1 else .bad
def s_call{st:ud}{a:t7}{fd:e7}{ps:ue Str}{j n:Nat}{f:Fn}(D:Def C.K X.mg x st a fd ps)(G:bA X.prog X.w C.K X.mg X.base CX0 j a fd ps (spM C n f))(ha:SA C k X (e::es) ms)(hj:j<=k:=by decide)
  (hg:Gl X x:=by rfl) (hdb:(x == ("__debug__" : Str))=false:=by decide) (he:da (e::es) X.env=(false,eval e X.env)::da es X.env:=by rfl) (hpl:(backTo pos (da es X.env)).any (·.1)=false:=by rfl):
  SE C k X (.Call (.Name x p) (e::es) [] pos) (cG n f ms):=λc=>by
 have e1:=c.K;have D':Def X.K X.mg x st a fd ps:=by rw[e1];exact D
 have G':bA X.prog X.w X.K X.mg X.base CX0 j a fd ps (spM C n f):=by rw[e1];exact G
 refine(Vv D' G' (c.room.mono hj) (ha c) hg hdb he hpl).imp λσ H Q h=>?_;let⟨φ,δ,h,rh,re,p⟩:=h;refine⟨φ,δ,h,rh,re,(postA.bind p).imp ?_⟩;rintro vs H1 ⟨φ1,xs,h1,p1,t1,rh1,rv1,q1⟩;refine⟨φ1,h1,xs,rh1,by rw[dz];exact rv1,q1.ite.1,q1.ite.2⟩
end
def gH:ue PV->PH->Rs PV:=λxs h=>match xs with
 |[.str y]=>if y.length<=bp then .ok (.int y.length) h else .bad
 |[.tup ys]=>.ok (.int ys.length) h
 |[.fl ys]=>.ok (.int ys.length) h
 |[.ref n]=>match aS h n with
  |some ys=>.ok (.int ys.length) h
  |none=>match h[n]? with
   |some (.dK kvs)=>.ok (.int kvs.length) h
   |_=>.bad
 |_=>.bad
theorem RVs.one{φ:ue t7}{H:Hp}{x:PV}{vs:ue V}(r:RVs C φ H [x] vs):∃v,vs=[v]/\RV C φ H x v:=by
 match vs,r with
 |[v],⟨h,_⟩=>exact⟨v,rfl,h⟩
 |[],h=>exact h.elim
 |_::_::_,⟨_,h⟩=>exact h.elim
theorem RVs.two(r:RVs C φ H [x,y] vs):∃v w,vs=[v,w]/\RV C φ H x v/\RV C φ H y w:=by
 match vs,r with
 |[v,w],⟨h,h',_⟩=>exact⟨v,w,rfl,h,h'⟩
 |[],h=>exact h.elim
 |[_],⟨_,h⟩=>exact h.elim
 |_::_::_::_,⟨_,_,h⟩=>exact h.elim
def nS:vQ C k X (.builtin "len") gH:=λc=>(Jv C.K c.K).imp λvs H Q h=>by
 let⟨φ,h,ps,rh,rv,po⟩:=h;unfold gH at po;split at po
 ·let⟨v,rfl,rx⟩:=rv.one;cases rx
  exact⟨po.ite.1,po.ite.2.val rh rfl⟩
 ·let⟨v,rfl,rx⟩:=rv.one;let⟨a,vs,rfl,sa,ra⟩:=rx;exact .inl ⟨vs,.inr sa,by rw[<-ra.length];exact po.val rh rfl⟩
 ·let⟨v,rfl,rx⟩:=rv.one;let⟨a,vs,rfl,sa,ra⟩:=rx;exact .inl ⟨vs,.inl sa.sq,by rw[<-ra.length];exact po.val rh rfl⟩
 ·rename_i n;let⟨v,rfl,rx⟩:=rv.one;let⟨a,rfl,ha⟩:=rx;split at po
  ·rename_i ys e;let⟨a2,vs,ha2,sa,ra⟩:=cR rh e;rw[ha]at ha2;cases ha2;exact .inl ⟨vs,.inl sa,by rw[<-ra.length];exact po.val rh rfl⟩
  ·split at po
   ·rename_i kvs hk;let⟨ks,hH,rk⟩:=rh.at' n a _ ha hk;refine .inr ⟨ks,hH,?_⟩;have:ks.length=kvs.length:=(ft rk).symm;rw[this];exact po.val rh rfl
   ·exact po.elim
 ·exact po.elim
def nT:ue PV->PH->Rs PV:=λxs h=>match xs with
 |[.tup ys]=>.ok (.tup ys) h
 |[.fl ys]=>.ok (.tup ys) h
 |[.ref n]=>match aS h n with
  |some ys=>.ok (.tup ys) h
  |none=>.bad
 |_=>.bad
def Ii:vQ C k X (.type "tuple") nT:=λc=>(DY C.K c.K).imp λvs H Q h=>by
 let⟨φ,h,ps,rh,rv,po⟩:=h;unfold nT at po;split at po
 ·let⟨v,rfl,rx⟩:=rv.one;let⟨a,vs,rfl,sa,ra⟩:=rx;exact⟨a,vs,rfl,.inr ⟨sa,po.val rh ⟨a,vs,rfl,sa,ra⟩⟩⟩
 ·let⟨v,rfl,rx⟩:=rv.one;let⟨a,vs,rfl,sa,ra⟩:=rx;exact⟨a,vs,rfl,.inl ⟨sa.sq,λp hp=>po.tnew rh ra hp⟩⟩
 ·rename_i n;let⟨v,rfl,rx⟩:=rv.one;let⟨a,rfl,ha⟩:=rx;split at po
  ·rename_i ys e;let⟨a2,vs,ha2,sa,ra⟩:=cR rh e;rw[ha]at ha2;cases ha2;exact⟨a,vs,rfl,.inl ⟨sa,λp hp=>po.tnew rh ra hp⟩⟩
  ·exact po.elim
 ·exact po.elim
def VE:ue PV->PH->Rs PV:=λxs h=>match xs with
 |[.int i,.int j]=>.ok (.int (if j>i then j else i)) h
 |_=>.bad
end L2
namespace L2
variable{C:MC}{k:Nat}{X:Cx}
def Rs.fl{α:Type}(r:Rs α)(f:α->PH->Fl):Fl:=match r with
 |.ok a h=>f a h
 |.exc x h=>.exc x h
 |.bad=>.bad
@[simp]theorem Rs.fl_ok{α:Type}(a:α)(h:PH)(f:α->PH->Fl):(Rs.ok a h).fl f=f a h:=(rfl)
@[simp]theorem Rs.fl_exc{α:Type}(x:PX)(h:PH)(f:α->PH->Fl):(Rs.exc x h:Rs α).fl f=.exc x h:=(rfl)
@[simp]theorem Rs.fl_bad{α:Type}(f:α->PH->Fl):(Rs.bad:Rs α).fl f=.bad:=(rfl)
section
variable{φ:ue t7}{H:Hp}
theorem post.fl{r:Rs PV}{f:PV->PH->Fl}{D:Ends}(h:cJ C φ H (r.fl f) D):post C φ H r λv H1=>∃φ1 p h1,φ<+:φ1/\Kp H H1/\RH C φ1 H1 h1/\RV C φ1 H1 p v/\cJ C φ1 H1 (f p h1) D:=by
 cases r with
 |ok a h'=>exact λφ' v H' p t rh rv=>⟨φ',a,h',p,t,rh,rv,cJ.weak p t h⟩
 |exc a h'=>exact h
 |bad=>exact h
theorem cI.fl{r:Rs Bool}{f:Bool->PH->Fl}{D:Ends}(h:cJ C φ H (r.fl f) D):cI C φ H r λb H1=>∃φ1 h1,φ<+:φ1/\Kp H H1/\RH C φ1 H1 h1/\cJ C φ1 H1 (f b h1) D:=by
 cases r with
 |ok a h'=>exact λφ' H' p t rh=>⟨φ',h',p,t,rh,cJ.weak p t h⟩
 |exc a h'=>exact h
 |bad=>exact h
theorem cJ.nx{δ:Ev}{h:PH}{D:Ends}{σ:St}(q:cJ C φ H (.nx δ h) D)(rh:RH C φ H h)(re:RE C φ H δ σ):D.nx σ H:=q φ σ H ba (Kp.refl H) rh re
theorem cJ.rt{p:PV}{h:PH}{D:Ends}{v:V}(q:cJ C φ H (.rt p h) D)(rh:RH C φ H h)(rv:RV C φ H p v):D.rt v H:=q φ v H ba (Kp.refl H) rh rv
end
abbrev Mg:=PV->Ev->uf Ev
abbrev Mgs:=ue PV->Ev->uf Ev
def rdG(C:MC)(t:Mg):TG:=λv σ H Q=>∃φ δ h p δ',RH C φ H h/\RE C φ H δ σ/\RV C φ H p v/\t p δ=a_ δ'/\∀σ',RE C φ H δ' σ'->Q σ' H
def Xz(C:MC)(t:Mgs):TGs:=λvs σ H Q=>∃φ δ h ps δ',RH C φ H h/\RE C φ H δ σ/\RVs C φ H ps vs/\t ps δ=a_ δ'/\∀σ',RE C φ H δ' σ'->Q σ' H
def SG(C:MC)(k:Nat)(X:Cx)(e:uc)(t:Mg):Prop:=Cxt C k X->PG X e (rdG C t)
def SGs(C:MC)(k:Nat)(X:Cx)(es:ue uc)(t:Mgs):Prop:=Cxt C k X->PGs X es (Xz C t)
def gN(i:Nat):Mg:=λp δ=>a_ (δ.set i (a_ p))
def gNl:Mgs:=λps δ=>match ps with
 |[]=>a_ δ
 |_::_=>b_
def gCn(t:Mg)(u:Mgs):Mgs:=λps δ=>match ps with
 |p::r=>(t p δ).bind (u r)
 |[]=>b_
def gTp(n:Nat)(u:Mgs):Mg:=λp δ=>match p with
 |.tup ps=>if ps.length=n then u ps δ else b_
 |_=>b_
theorem PG.imp{e:uc}{t t':TG}(h:PG X e t)(i:∀v σ H Q,t' v σ H Q->t v σ H Q):PG X e t':=λpins s σ H v u Q I r q=>h pins s σ H v u Q I r (i v σ H Q q)
theorem PGs.imp{es:ue uc}{t t':TGs}(h:PGs X es t)(i:∀v σ H Q,t' v σ H Q->t v σ H Q):PGs X es t':=λpins s σ H v u Q I r q=>h pins s σ H v u Q I r (i v σ H Q q)
def aK{i:Nat}{x:Str}{pos:Pos}(hN:X.N.Nodup)(hi:X.N[i]?=a_ x:=by rfl)(hx:Loc X.env.scope x:=by first|exact Or.inl rfl|exact Or.inr rfl)(hf:X.fn x=true\/X.env.scope.names.lookup x=a_ .local:=by first|exact .inl rfl|exact .inr rfl):SG C k X (.Name x pos) (gN i):=λc=>
 (OI hN hi hx hf).imp λv σ H Q h=>by
  let⟨φ,δ,h,p,δ',rh,re,rv,e,q⟩:=h;cases e
  exact q _ (re.set rv i)
def jR:SGs C k X [] gNl:=λc=>OJ.imp λv σ H Q h=>by
 let⟨φ,δ,h,ps,δ',rh,re,rv,e,q⟩:=h;cases ps with
 |nil=>
  cases e
  cases v with
  |nil=>exact⟨rfl,q σ re⟩
  |cons=>exact rv.elim
 |cons=>cases e
def bF(h1:SG C k X e t)(h2:SGs C k X es u)(hs:(mn (e::es) X.env).map (·.2)=assign e X.env::(mn es X.env).map (·.2):=by rfl):SGs C k X (e::es) (gCn t u):=λc=>
 (KQ (h1 c) (h2 c) hs).imp λvs σ H Q h=>by
  let⟨φ,δ,h,ps,δ',rh,re,rv,e,q⟩:=h;cases ps with
  |nil=>cases e
  |cons p r=>
   cases vs with
   |nil=>exact rv.elim
   |cons v vs=>
    let⟨δ1,e1,e2⟩:=Option.bind_eq_some_iff.mp (show(t p δ).bind (u r)=a_ δ' from e)
    exact⟨v,vs,rfl,φ,δ,h,p,δ1,rh,re,rv.1,e1,λσ' re'=>⟨φ,δ1,h,r,δ',rh,re',rv.2,e2,q⟩⟩
def jS{es:ue uc}{j:Nat}{u:Mgs}{n:Nat}{pos:Pos}(h:SGs C k X es u)(hn:(mn es X.env).length=n:=by rfl)(hst:(mn es X.env).findIdx? (·.1)=b_:=by rfl):SG C k X (.Tuple es j pos) (gTp n u):=λc=>
 (gT C.K c.K c.calm (h c) hn hst).imp λv σ H Q h=>by
  let⟨φ,δ,h,p,δ',rh,re,rv,e,q⟩:=h;cases p with
  |tup ps=>
   let⟨a,vs,rfl,sa,ra⟩:=rv;by_cases hl:ps.length=n
   ·have e':u ps δ=a_ δ':=by have:(if ps.length=n then u ps δ else b_)=a_ δ':=e;rw[if_pos hl]at this;exact this
    exact⟨a,vs,rfl,sa,by rw[<-ra.length];exact hl,φ,δ,h,ps,δ',rh,re,ra,e',q⟩
   ·have:(if ps.length=n then u ps δ else b_)=a_ δ':=e;rw[if_neg hl]at this;cases this
  |_=>cases e
theorem PS.imp{st:ud}{t t':TS}(h:PS X st t)(i:∀D σ H,t' D σ H->t D σ H):PS X st t':=λpins s σ H D I q=>h pins s σ H D I (i D σ H q)
theorem PSs.imp{st:ue ud}{t t':TS}(h:PSs X st t)(i:∀D σ H,t' D σ H->t D σ H):PSs X st t':=λpins s σ H D I q=>h pins s σ H D I (i D σ H q)
def aL(a b:Ms):Ms:=λδ h=>match a δ h with
 |.nx δ1 h1=>b δ1 h1
 |r=>r
def fJ:Ms:=λδ h=>.nx δ h
def XA:Ms:=λδ h=>.bk δ h
def XB:Ms:=λδ h=>.ct δ h
def bD(i:Nat)(m:Me):Ms:=λδ h=>(m δ h).fl λp h1=>.nx (δ.set i (a_ p)) h1
def uD(m:Me)(t:Mg):Ms:=λδ h=>(m δ h).fl λp h1=>match t p δ with
 |some δ'=>.nx δ' h1
 |none=>.bad
def mJ(m:Me):Ms:=λδ h=>(m δ h).fl λ_ h1=>.nx δ h1
def dH(m:Me):Ms:=λδ h=>(m δ h).fl λp h1=>.rt p h1
def VF:Ms:=λ_ h=>.rt .non h
def eG(t:Ev->PH->Rs Bool)(a b:Ms):Ms:=λδ h=>(t δ h).fl λc h1=>match c with
 |true=>a δ h1
 |false=>b δ h1
section
variable{st:ud}{rest:ue ud}{a b:Ms}{e:uc}{m:Me}{pos:Pos}
def cY:SSs C k X [] fJ:=λc=>OE.imp λD σ H h=>by let⟨φ,δ,h,rh,re,p⟩:=h;exact p.nx rh re
def Tn{φ:ue t7}{H:Hp}{r:Fl}{b:Ms}{D:Ends}(h:cJ C φ H (match r with|.nx δ1 h1=>b δ1 h1|r=>r) D):cJ C φ H r { D with nx:=rdS C b D}:=by
 cases r with
 |nx δ h'=>exact λφ' σ H' p t rh re=>⟨φ',δ,h',rh,re,cJ.weak p t h⟩
 |rt p h'=>exact h
 |bk δ h'=>exact h
 |ct δ h'=>exact h
 |exc x h'=>exact h
 |bad=>exact h
def aE(h1:SSt C k X st a)(h2:SSs C k X rest b):SSs C k X (st::rest) (aL a b):=λc=>(KN (h1 c) (h2 c)).imp λD σ H h=>by let⟨φ,δ,h,rh,re,p⟩:=h;exact⟨φ,δ,h,rh,re,Tn p⟩
def aJ(h1:SSt C k X st a):SSs C k X [st] a:=λc=>OF (h1 c)
def To:SSt C k X (.Pass pos) fJ:=λc=>OG.imp λD σ H h=>by let⟨φ,δ,h,rh,re,p⟩:=h;exact p.nx rh re
def bJ{i:Nat}{x:Str}{pos':Pos}(hN:X.N.Nodup)(he:SE C k X e m)(hi:X.N[i]?=a_ x:=by rfl)(hx:Loc X.env.scope x:=by first|exact Or.inl rfl|exact Or.inr rfl)(hs:swapsWith e (a_ (.Name x pos')) pos.line X.env=pure false:=by rfl)
  (hf:X.fn x=true\/X.env.scope.names.lookup x=a_ .local:=by first|exact .inl rfl|exact .inr rfl):SSt C k X (.Assign [.Name x pos'] e pos) (bD i m):=λc=>(Ss hN hi hx (he c) hs hf).imp λD σ H h=>by
 let⟨φ,δ,h,rh,re,p⟩:=h;refine⟨φ,δ,h,rh,re,(post.fl p).imp ?_⟩;rintro v H1 ⟨φ1,x,h1,p1,t1,rh1,rv1,q1⟩;exact q1.nx rh1 ((re.mono p1 t1).set rv1 i)
def rR(he:SE C k X e m)(hg:SG C k X tg t)(hs:swapsWithSole [tg] e pos.line X.env=pure false:=by rfl)(hw:swappedStores [tg] e X.env=pure b_:=by rfl)(h1:(mn [tg] X.env).map (·.2)=[assign tg X.env]:=by rfl):SSt C k X (.Assign [tg] e pos) (uD m t):=λc=>(Sr (he c) (hg c) hs hw h1).imp λD σ H h=>by
 let⟨φ,δ,h,rh,re,p⟩:=h;refine⟨φ,δ,h,rh,re,(post.fl p).imp ?_⟩;rintro v H1 ⟨φ1,x,h1,p1,t1,rh1,rv1,q1⟩;cases et:t x δ with
 |none=>rw[et]at q1;exact q1.elim
 |some δ'=>rw[et]at q1;exact⟨φ1,δ,h1,x,δ',rh1,re.mono p1 t1,rv1,et,λσ' re'=>q1.nx rh1 re'⟩
def mZ(he:SE C k X e m)(hs:swapsWith e b_ pos.line X.env=pure false:=by rfl):SSt C k X (.Expr e pos) (mJ m):=λc=>(OH (he c) hs).imp λD σ H h=>by let⟨φ,δ,h,rh,re,p⟩:=h;refine⟨φ,δ,h,rh,re,(post.fl p).imp ?_⟩;rintro v H1 ⟨φ1,x,h1,p1,t1,rh1,rv1,q1⟩;exact q1.nx rh1 (re.mono p1 t1)
def cS(he:SE C k X e m):SSt C k X (.Return (a_ e) pos) (dH m):=λc=>(Sn (he c)).imp λD σ H h=>by let⟨φ,δ,h,rh,re,p⟩:=h;refine⟨φ,δ,h,rh,re,(post.fl p).imp ?_⟩;rintro v H1 ⟨φ1,x,h1,p1,t1,rh1,rv1,q1⟩;exact q1.rt rh1 rv1
def jB{t:Ev->PH->Rs Bool}(hc:ST C k X cnd t)(ha:SSs C k X as a)(hb:SSs C k X bs b):SSt C k X (.If cnd as bs pos) (eG t a b):=λc=>(V0 (hc c) (ha c) (hb c)).imp λD σ H h=>by
 let⟨φ,δ,h,rh,re,p⟩:=h;refine⟨φ,δ,h,rh,re,(cI.fl p).imp ?_⟩;rintro d H1 ⟨φ1,h1,p1,t1,rh1,q1⟩;cases d with
 |true=>exact Ld ⟨φ1,δ,h1,rh1,re.mono p1 t1,q1⟩
 |false=>exact Lc ⟨φ1,δ,h1,rh1,re.mono p1 t1,q1⟩
end
structure Wk where
 xs:ue PV
 g:PH->Bool
def JI(C:MC)(J:It)(w:Wk)(φ0:ue t7)(H0:Hp):Prop:=∀φ H h,φ0<+:φ->Kp H0 H->RH C φ H h->w.g h=true->∀i:Nat,
 (i<w.xs.length->J.go i H/\∀x H',J.yld i H x H'->(∃p,w.xs[i]?=a_ p/\RV C φ H' p x)/\Kp H H'/\RH C φ H' h)/\(w.xs.length<=i->J.stop i H)
abbrev Mi:=Ev->PH->Rs Wk
def iJ(C:MC)(φ:ue t7)(H:Hp)(r:Rs Wk)(R:It->Hp->Prop):Prop:=match r with
 |.ok w h=>∀φ' H' J,φ<+:φ'->Kp H H'->RH C φ' H' h->JI C J w φ' H'->R J H'
 |.exc x h=>∀φ' H',φ<+:φ'->Kp H H'->RH C φ' H' h->C.ex φ' H' x
 |.bad=>False
def rdI(C:MC)(m:Mi):TI:=λσ H R=>∃φ δ h,RH C φ H h/\RE C φ H δ σ/\iJ C φ H (m δ h) R
def SI(C:MC)(k:Nat)(X:Cx)(tg iter:uc)(m:Mi):Prop:=Cxt C k X->PI X tg iter (rdI C m)
def uE(n:Nat)(xs:ue PV)(h':PH):Bool:=match aS h' n with
 |some ys=>PV.beqs ys xs
 |none=>false
def ofSeq(x:PV)(h:PH):Rs Wk:=match x with
 |.tup xs=>.ok ⟨xs,λ_=>true⟩ h
 |.ref n=>match aS h n with
  |some xs=>.ok ⟨xs,uE n xs⟩ h
  |none=>.bad
 |.fl xs=>.ok ⟨xs,λ_=>true⟩ h
 |_=>.bad
def aZ(m:Me):Mi:=λδ h=>(m δ h).bind ofSeq
def eU(h:SE C k X iter m):SI C k X tg iter (aZ m):=λc=>by
 intro pins s σ H R I q;let⟨φ,δ,hh,rh,re,p⟩:=q;have key:rd C m σ H λv H1=>∃φ1 x h1,φ<+:φ1/\Kp H H1/\RH C φ1 H1 h1/\RV C φ1 H1 x v/\iJ C φ1 H1 (ofSeq x h1) R:=by
  refine⟨φ,δ,hh,rh,re,?_⟩;unfold aZ at p;cases e:m δ hh with
  |ok x h1=>
   rw[e]at p;intro φ' v H' p' t' rh' rv';refine⟨φ',x,h1,p',t',rh',rv',?_⟩
   show iJ C φ' H' (ofSeq x h1) R
   have p0:iJ C φ H (ofSeq x h1) R:=p;cases e2:ofSeq x h1 with
   |ok w h2=>rw[e2]at p0;exact λφ2 H2 J p2 t2=>p0 φ2 H2 J (p'.trans p2) (t'.trans t2)
   |exc z h2=>rw[e2]at p0;exact λφ2 H2 p2 t2=>p0 φ2 H2 (p'.trans p2) (t'.trans t2)
   |bad=>rw[e2]at p0;exact p0
  |exc x h1=>rw[e]at p;exact p
  |bad=>rw[e]at p;exact p
 refine thn (h c pins s σ H _ I key) λv s1 hz=>?_;let⟨x,H1,I1,r1,φ1,x',h1,p1,t1,rh1,rv1,q1⟩:=hz;unfold ofSeq at q1;cases x' with
 |tup xs=>
  let⟨a,vs,rfl,sa,ra⟩:=rv1;cases r1
  rw[<-c.K]at sa;let⟨its,rv,p,hz⟩:=I1.tuple sa;refine wpAny_pyIter_tuple (show s1.heap.IsTuple a its.toArray from p) ?_
  refine⟨(e_ s1),[(e_ s1)],_,_,H1,rfl,I1.kept (t':=s1.toks) λb o e=>ae _ e,Fw a _,⟨_,bo _ rfl,rfl,rfl⟩,λb hb=>?_,?_⟩
  ·have e:b=(e_ s1):=by simpa using hb
   subst e;exact I1.fpOk (bq _) (I1.hok.fresh (bq _))
  ·refine q1 φ1 H1 (Itt X.K a) ba (Kp.refl H1) rh1 λφ2 H2 h2 p2 t2 rh2 _ i=>⟨λhi=>?_,λhi=>⟨vs,t2.sq sa,by rw[<-ra.length];exact hi⟩⟩;have hi':i<vs.length:=by rw[<-ra.length];exact hi
   refine⟨⟨vs,vs[i],t2.sq sa,by simp[hi']⟩,λx H' y=>?_⟩;let⟨e,y⟩:=y;subst e;let⟨x2,e2,r2⟩:=ra.get (y vs (t2.sq sa));exact⟨⟨x2,e2,r2.mono p2 t2⟩,Kp.refl _,rh2⟩
 |ref n=>
  let⟨a,rfl,ha⟩:=rv1;cases r1
  dsimp only at q1;cases e:aS h1 n with
  |none=>rw[e]at q1;exact q1.elim
  |some xs=>
   rw[e]at q1;let⟨a2,vs,ha2,sa,ra⟩:=cR rh1 e;rw[ha]at ha2;cases ha2;have sa':SqL X.K H1 a vs:=by rw[c.K];exact sa
   let⟨its,rv,p,hz⟩:=I1.list sa';refine qo p.isList ?_;refine⟨(e_ s1),[(e_ s1)],_,_,H1,rfl,I1.kept (t':=s1.toks) λb o e=>ae _ e,AK a _,⟨_,bo _ rfl,rfl,rfl⟩,λb hb=>?_,?_⟩
   ·have e:b=(e_ s1):=by simpa using hb
    subst e;exact I1.fpOk (bq _) (I1.hok.fresh (bq _))
   ·refine q1 φ1 H1 (Itl X.K a) ba (Kp.refl H1) rh1 λφ2 H2 h2 p2 t2 rh2 hg i=>?_;have hg:(match aS h2 n with|some ys=>PV.beqs ys xs|none=>false)=true:=hg
    cases e2:aS h2 n with
    |none=>rw[e2]at hg;cases hg
    |some ys=>
     rw[e2]at hg;have hxy:=PV.beqs_eq hg;subst hxy;let⟨a3,us,ha3,su,ru⟩:=cR rh2 e2;rw[jP p2 ha]at ha3;cases ha3;rw[<-c.K]at su;refine⟨λhi=>?_,λhi=>⟨us,su,by rw[<-ru.length];exact hi⟩⟩;have hi':i<us.length:=by rw[<-ru.length];exact hi
     refine⟨⟨us,us[i],su,by simp[hi']⟩,λx H' y=>?_⟩;let⟨e,y⟩:=y;subst e;let⟨x2,e2,r2⟩:=ru.get (y us su);exact⟨⟨x2,e2,r2⟩,Kp.refl _,rh2⟩
 |fl xs=>
  let⟨a,vs,rfl,sa,ra⟩:=rv1;cases r1
  rw[<-c.K]at sa;let⟨its,rv,p,hz⟩:=I1.list sa.sq;refine qo p.isList ?_;refine⟨(e_ s1),[(e_ s1)],_,_,H1,rfl,I1.kept (t':=s1.toks) λb o e=>ae _ e,AK a _,⟨_,bo _ rfl,rfl,rfl⟩,λb hb=>?_,?_⟩
  ·have e:b=(e_ s1):=by simpa using hb
   subst e;exact I1.fpOk (bq _) (I1.hok.fresh (bq _))
  ·refine q1 φ1 H1 (Itl X.K a) ba (Kp.refl H1) rh1 λφ2 H2 h2 p2 t2 rh2 _ i=>⟨λhi=>?_,λhi=>⟨vs,(t2.sf sa).sq,by rw[<-ra.length];exact hi⟩⟩;have hi':i<vs.length:=by rw[<-ra.length];exact hi
   refine⟨⟨vs,vs[i],(t2.sf sa).sq,by simp[hi']⟩,λx H' y=>?_⟩;let⟨e,y⟩:=y;subst e;let⟨x2,e2,r2⟩:=ra.get (y vs (t2.sf sa).sq);exact⟨⟨x2,e2,r2.mono p2 t2⟩,Kp.refl _,rh2⟩
 |_=>exact q1.elim
def upTo(lo:Int):Nat->ue PV
 |0=>[]
 |n+1=>.int lo::upTo (lo+1) n
theorem eI:∀(n:Nat)(lo:Int),(upTo lo n).length=n
 |0,_=>rfl
 |n+1,lo=>by simp[upTo,eI n]
theorem rS:∀(n:Nat)(lo:Int)(i:Nat),i<n->(upTo lo n)[i]?=d_ (lo+i)
 |0,_,_,h=>by omega
 |n+1,lo,0,_=>by simp[upTo]
 |n+1,lo,i+1,h=>by
  simp only[upTo,fu];rw[rS n (lo+1) i ⋯];congr 2;omega
open Classical in
noncomputable def LL:ue PV->PH->Rs Wk:=λxs h=>match xs with
 |[.int j]=>if -(2 ^ 62)<=j/\j<2 ^ 62 then .ok ⟨upTo 0 j.toNat,λ_=>true⟩ h else .bad
 |_=>.bad
open Classical in
noncomputable def LM:ue PV->PH->Rs Wk:=λxs h=>match xs with
 |[.int i,.int j]=>if -(2 ^ 62)<=i/\i<2 ^ 62/\-(2 ^ 62)<=j/\j<2 ^ 62 then .ok ⟨upTo i (j-i).toNat,λ_=>true⟩ h else .bad
 |_=>.bad
noncomputable def vS(ms:Ma):Mi:=λδ h=>(ms δ h).bind LL
noncomputable def Ij(ms:Ma):Mi:=λδ h=>(ms δ h).bind LM
def LN(lo:Int)(n:Nat)(φ:ue t7)(H:Hp):JI C (Itr lo n) ⟨upTo lo n,λ_=>true⟩ φ H:=λφ2 H2 h2 p2 t2 rh2 _ i=>by
 refine⟨λhi=>?_,λhi=>?_⟩
 ·have hi':i<n:=by rw[<-eI n lo];exact hi
  refine⟨hi',λx H' y=>?_⟩;let⟨e,y⟩:=y;subst e y;exact⟨⟨.int (lo+i),rS n lo i hi',rfl⟩,Kp.refl _,rh2⟩
 ·have:(upTo lo n).length<=i:=hi;rw[eI]at this;exact this
theorem postA.bindI{r:Rs (ue PV)}{f:ue PV->PH->Rs Wk}{R:It->Hp->Prop}(h:iJ C φ H (r.bind f) R):postA C φ H r λvs H1=>∃φ1 ps h1,φ<+:φ1/\Kp H H1/\RH C φ1 H1 h1/\RVs C φ1 H1 ps vs/\iJ C φ1 H1 (f ps h1) R:=by
 cases r with
 |ok a h'=>
  intro φ' v H' p' t' rh rv;refine⟨φ',a,h',p',t',rh,rv,?_⟩;have p0:iJ C φ H (f a h') R:=h;cases e2:f a h' with
  |ok w h2=>rw[e2]at p0;exact λφ2 H2 J p2 t2=>p0 φ2 H2 J (p'.trans p2) (t'.trans t2)
  |exc z h2=>rw[e2]at p0;exact λφ2 H2 p2 t2=>p0 φ2 H2 (p'.trans p2) (t'.trans t2)
  |bad=>rw[e2]at p0;exact p0
 |exc a h'=>exact h
 |bad=>exact h
theorem PI.imp{tg iter:uc}{t t':TI}(h:PI X tg iter t)(i:∀σ H R,t' σ H R->t σ H R):PI X tg iter t':=λpins s σ H R I q=>h pins s σ H R I (i σ H R q)
def Ca{x:uc}{ms:Ma}{tg:uc}{p pos:Pos}(ha:SA C k X [x] ms)(hb:("range" : Str)∈C.bs:=by decide)(hg:Gl X "range" := by rfl)(hs:da [x] X.env=[(false,eval x X.env)]:=by rfl):SI C k X tg (.Call (.Name "range" p) [x] [] pos) (vS ms):=λc=>
 (pr1 hg (c.bn _ hb) (ha c) hs).imp λσ H R h=>by
  let⟨φ,δ,h,rh,re,p⟩:=h;refine⟨φ,δ,h,rh,re,(postA.bindI p).imp ?_⟩;rintro vs H1 ⟨φ1,xs,h1,p1,t1,rh1,rv1,q1⟩;unfold LL at q1;split at q1
  ·let⟨v,rfl,rx⟩:=rv1.one;cases rx
   rename_i j;by_cases hj:-(2 ^ 62)<=j/\j<2 ^ 62
   ·rw[if_pos hj]at q1;exact⟨hj,q1 φ1 H1 _ ba (Kp.refl _) rh1 (LN 0 j.toNat φ1 H1)⟩
   ·rw[if_neg hj]at q1;exact q1.elim
  ·exact q1.elim
def Tp{x y:uc}{ms:Ma}{tg:uc}{p pos:Pos}(ha:SA C k X [x,y] ms)(hb:("range" : Str)∈C.bs:=by decide)(hg:Gl X "range" := by rfl)(hs:da [x,y] X.env=[(false,eval x X.env),(false,eval y X.env)]:=by rfl)(hs2:da [y] X.env=[(false,eval y X.env)]:=by rfl):
  SI C k X tg (.Call (.Name "range" p) [x,y] [] pos) (Ij ms):=λc=>
 (pr2 hg (c.bn _ hb) (ha c) hs hs2).imp λσ H R h=>by
  let⟨φ,δ,h,rh,re,p⟩:=h;refine⟨φ,δ,h,rh,re,(postA.bindI p).imp ?_⟩;rintro vs H1 ⟨φ1,xs,h1,p1,t1,rh1,rv1,q1⟩;unfold LM at q1;split at q1
  ·let⟨v,w,rfl,rx,ry⟩:=rv1.two;cases rx;cases ry;rename_i i j;by_cases hj:-(2 ^ 62)<=i/\i<2 ^ 62/\-(2 ^ 62)<=j/\j<2 ^ 62
   ·rw[if_pos hj]at q1;exact⟨hj,q1 φ1 H1 _ ba (Kp.refl _) rh1 (LN i (j-i).toNat φ1 H1)⟩
   ·rw[if_neg hj]at q1;exact q1.elim
  ·exact q1.elim
def iK(g:PH->Bool)(tg:Mg)(body:Ms):ue PV->Ev->PH->Fl
 |[],δ,h=>if g h=true then .nx δ h else .bad
 |x::xs,δ,h=>if g h=true then(match tg x δ with
  |none=>.bad
  |some δ1=>match body δ1 h with
   |.nx δ2 h2=>iK g tg body xs δ2 h2
   |.ct δ2 h2=>iK g tg body xs δ2 h2
   |.bk δ2 h2=>.nx δ2 h2
   |r=>r) else .bad
def eN(mi:Mi)(tg:Mg)(body:Ms):Ms:=λδ h=>(mi δ h).fl λw h1=>iK w.g tg body w.xs δ h1
theorem iJ.fl{φ:ue t7}{H:Hp}{r:Rs Wk}{f:Wk->PH->Fl}{D:Ends}(h:cJ C φ H (r.fl f) D):iJ C φ H r λJ H1=>∃φ1 w h1,φ<+:φ1/\Kp H H1/\RH C φ1 H1 h1/\JI C J w φ1 H1/\cJ C φ1 H1 (f w h1) D:=by
 cases r with
 |ok a h'=>exact λφ' H' J p t rh wk=>⟨φ',a,h',p,t,rh,wk,cJ.weak p t h⟩
 |exc a h'=>exact h
 |bad=>exact h
theorem iJ.imp{φ:ue t7}{H:Hp}{r:Rs Wk}{Q Q':It->Hp->Prop}(h:iJ C φ H r Q)(i:∀v H',Q v H'->Q' v H'):iJ C φ H r Q':=by
 cases r with
 |ok a h'=>exact λφ' H' J p t rh wk=>i J H' (h φ' H' J p t rh wk)
 |exc a h'=>exact h
 |bad=>exact h
def drop_cons{α:Type}{xs:ue α}{i:Nat}{p:α}(h:xs[i]?=a_ p):xs.drop i=p::xs.drop (i+1):=by let⟨h1,h2⟩:=ab.mp h;rw[d7 h1,h2]
def Cb{J:It}{w:Wk}{φ0:ue t7}{H0:Hp}{tg:Mg}{body:Ms}{D:Ends}{σ:St}{δ:Ev}{h:PH}(wk:JI C J w φ0 H0)(rh:RH C φ0 H0 h)(re:RE C φ0 H0 δ σ)(p:cJ C φ0 H0 (iK w.g tg body w.xs δ h) D):
  ∃W:Nat->Nat->St->Hp->Prop,(∃m,W 0 m σ H0)/\∀i m σ H,W i m σ H->
   (J.stop i H/\D.nx σ H)\/(J.go i H/\∃N:St->Hp->Prop,(∀σ' H',N σ' H'->∃m',m'<m/\W (i+1) m' σ' H')/\∀x H',J.yld i H x H'->rdG C tg x σ H' λσ2 H2=>rdS C body { D with nx:=N,ct:=N,bk:=D.nx} σ2 H2):=by
 refine⟨λi m σ H=>m=w.xs.length-i/\i<=w.xs.length/\∃φ δ h,φ0<+:φ/\Kp H0 H/\RH C φ H h/\RE C φ H δ σ/\cJ C φ H (iK w.g tg body (w.xs.drop i) δ h) D,
  ⟨w.xs.length,by simp,cv _,φ0,δ,h,ba,Kp.refl _,rh,re,by rw[fq];exact p⟩,?_⟩
 rintro i m σ H ⟨rfl,hi,φ,δ,h,pp,tt,rh,re,p⟩;by_cases hlt:i<w.xs.length
 ·have hd:w.xs.drop i=w.xs[i]::w.xs.drop (i+1):=drop_cons (by simp[hlt]);rw[hd]at p;unfold iK at p;by_cases hg:w.g h=true
  ·rw[if_pos hg]at p;let⟨go,step⟩:=(wk φ H h pp tt rh hg i).1 hlt;refine .inr ⟨go,λσ' H'=>∃φ δ h,φ0<+:φ/\Kp H0 H'/\RH C φ H' h/\RE C φ H' δ σ'/\cJ C φ H' (iK w.g tg body (w.xs.drop (i+1)) δ h) D,λσ' H' ⟨φ',δ',h',q⟩=>⟨w.xs.length-(i+1),⋯,rfl,hlt,φ',δ',h',q⟩,λx H' y=>?_⟩;let⟨⟨q,eq,rv⟩,t1,rh1⟩:=step x H' y;have eq':w.xs[i]=q:=by
    have:w.xs[i]?=a_ w.xs[i]:=by simp[hlt]
    rw[this]at eq;exact cy eq
   rw[eq']at p;cases et:tg q δ with
   |none=>rw[et]at p;exact p.elim
   |some δ1=>
    rw[et]at p;dsimp only at p;refine⟨φ,δ,h,q,δ1,rh1,re.mono ba t1,rv,et,λσ2 re2=>⟨φ,δ1,h,rh1,re2,?_⟩⟩;have p:=cJ.weak ba t1 p;cases eb:body δ1 h with
    |nx δ2 h2=>rw[eb]at p;exact λφ3 σ3 H3 p3 t3 rh3 re3=>⟨φ3,δ2,h2,pp.trans p3,(tt.trans t1).trans t3,rh3,re3,cJ.weak p3 t3 p⟩
    |ct δ2 h2=>rw[eb]at p;exact λφ3 σ3 H3 p3 t3 rh3 re3=>⟨φ3,δ2,h2,pp.trans p3,(tt.trans t1).trans t3,rh3,re3,cJ.weak p3 t3 p⟩
    |bk δ2 h2=>rw[eb]at p;exact p
    |rt z h2=>rw[eb]at p;exact p
    |exc z h2=>rw[eb]at p;exact p
    |bad=>rw[eb]at p;exact p
  ·rw[if_neg hg]at p;exact p.elim
 ·have e:i=w.xs.length:=⋯;subst e;rw[List.drop_length]at p;unfold iK at p;by_cases hg:w.g h=true
  ·rw[if_pos hg]at p;exact .inl ⟨(wk φ H h pp tt rh hg _).2 (bq _),p.nx rh re⟩
  ·rw[if_neg hg]at p;exact p.elim
def jC{tg iter:uc}{body:ue ud}{mi:Mi}{t:Mg}{mb:Ms}{pos:Pos}(hi:SI C k X tg iter mi)(hg:SG C k X tg t)(hb:SSs C k X body mb)(hp:PassesOwn (h_ X) X.A X.env X.xe:=by exact PassesOwn.never)
  (hs:∀x,k5 iter X.env x=pure x:=by intro _;rfl):SSt C k X (.For tg iter body [] pos) (eN mi t mb):=λc=>(Sv hp c.calm (hi c) (hg c) (hb c) hs).imp λD σ H h=>by
 let⟨φ,δ,h,rh,re,p⟩:=h;refine⟨φ,δ,h,rh,re,(iJ.fl p).imp ?_⟩;rintro J H1 ⟨φ1,w,h1,p1,t1,rh1,wk,q1⟩;exact Cb wk rh1 (re.mono p1 t1) q1
def Ec(t:Ev->PH->Rs Bool)(body:Ms):Nat->Ev->PH->Fl
 |0,_,_=>.bad
 |n+1,δ,h=>(t δ h).fl λb h1=>match b with
  |false=>.nx δ h1
  |true=>match body δ h1 with
   |.nx δ2 h2=>Ec t body n δ2 h2
   |.ct δ2 h2=>Ec t body n δ2 h2
   |.bk δ2 h2=>.nx δ2 h2
   |r=>r
def LP(n:Nat)(t:Ev->PH->Rs Bool)(body:Ms):Ms:=Ec t body n
def Pl{n:Nat}{cnd:uc}{body:ue ud}{t:Ev->PH->Rs Bool}{mb:Ms}{pos:Pos}(hc:ST C k X cnd t)(hb:SSs C k X body mb)(hp:PassesOwn (h_ X) X.A X.env X.xe:=by exact PassesOwn.never):SSt C k X (.While cnd body [] pos) (LP n t mb):=λc=>
 (KR hp (hc c) (hb c)).imp λD σ H h=>by
  refine⟨λm σ H=>∃φ δ h,RH C φ H h/\RE C φ H δ σ/\cJ C φ H (Ec t mb m δ h) D,⟨n,h⟩,?_⟩;rintro m σ H ⟨φ,δ,h,rh,re,p⟩;cases m with
  |zero=>exact p.elim
  |succ m=>
   refine⟨φ,δ,h,rh,re,(cI.fl p).imp ?_⟩;rintro b H1 ⟨φ1,h1,p1,t1,rh1,q1⟩;cases b with
   |false=>exact Lc (q1.nx rh1 (re.mono p1 t1))
   |true=>
    refine Ld ⟨λσ' H'=>∃φ δ h,RH C φ H' h/\RE C φ H' δ σ'/\cJ C φ H' (Ec t mb m δ h) D,λσ' H' q=>⟨m,qy m,q⟩,φ1,δ,h1,rh1,re.mono p1 t1,?_⟩;dsimp only at q1;cases eb:mb δ h1 with
    |nx δ2 h2=>rw[eb]at q1;exact λφ3 σ3 H3 p3 t3 rh3 re3=>⟨φ3,δ2,h2,rh3,re3,cJ.weak p3 t3 q1⟩
    |ct δ2 h2=>rw[eb]at q1;exact λφ3 σ3 H3 p3 t3 rh3 re3=>⟨φ3,δ2,h2,rh3,re3,cJ.weak p3 t3 q1⟩
    |bk δ2 h2=>rw[eb]at q1;exact q1
    |rt z h2=>rw[eb]at q1;exact q1
    |exc z h2=>rw[eb]at q1;exact q1
    |bad=>rw[eb]at q1;exact q1
end L2
namespace L2
variable{C:MC}{k:Nat}{X:Cx}
def mK(js:ue (uf Nat))(δ:Ev):Ev:=js.map λo=>match o with
 |none=>b_
 |some j=>eK δ j
theorem Ik:∀{σ:St}{i:Nat}{v:V},σ[i]?=a_ (a_ v)->Lq σ i=a_ v
 |[],_,_,h=>by simp at h
 |x::_,0,v,h=>by
  have:x=a_ v:=by simpa using h
  exact this
 |_::r,n+1,v,h=>Ik (σ:=r) (i:=n) (l_ h)
theorem RE.cap(re:RE C φ H δ σ)(js:ue (uf Nat)):RE C φ H (mK js δ) (mF js σ):=by
 refine⟨by simp[mK,mF],λi p e=>?_⟩;unfold mK at e;unfold mF;rw[ar]at e⊢;cases q:js[i]? with
 |none=>rw[q]at e;cases e
 |some o=>
  rw[q]at e;cases o with
  |none=>cases e
  |some j=>let⟨v,hv,rv⟩:=re.2 j p (yH (cy e));exact⟨v,by show a_ (Lq σ j)=_;rw[Ik hv],rv⟩
def nC(g:PH->Bool)(tg:Mg)(tst:Ev->PH->Rs Bool)(elt:Me)(δ0:Ev)(n:Nat):ue PV->PH->Rs PV
 |[],h=>if g h=true then .ok (.ref n) h else .bad
 |x::xs,h=>if g h=true then(match tg x δ0 with
  |none=>.bad
  |some δ1=>(tst δ1 h).bind λb h1=>match b with
   |false=>nC g tg tst elt δ0 n xs h1
   |true=>(elt δ1 h1).bind λp h2=>match fL h2 n with
    |some ys=>if ys.length<bp then nC g tg tst elt δ0 n xs (h2.set n (.lst (ys++[p]))) else .bad
    |none=>.bad) else .bad
def cK(js:ue (uf Nat))(mi:Mi)(tg:Mg)(tst:Ev->PH->Rs Bool)(elt:Me):Me:=λδ h=>(mi δ h).bind λw h1=>nC w.g tg tst elt (mK js δ) h1.length w.xs (h1++[.lst []])
def uF:Ev->PH->Rs Bool:=λ_ h=>.ok true h
def STs(C:MC)(k:Nat)(X:Cx)(es:ue uc)(m:Ev->PH->Rs Bool):Prop:=Cxt C k X->PTs X es (rdB C m)
def yQ:STs C k X [] uF:=λc pins s σ H Q I h=>by let⟨φ,δ,h,rh,re,p⟩:=h;exact P8 pins s σ H Q I (p.val rh)
def nW{m:Ev->PH->Rs Bool}(h:ST C k X e m):STs C k X [e] m:=λc=>P9 (h c)
theorem iJ.bind{r:Rs Wk}{f:Wk->PH->Rs PV}(h:post C φ H (r.bind f) Q):iJ C φ H r λJ H1=>∃φ1 w h1,φ<+:φ1/\Kp H H1/\RH C φ1 H1 h1/\JI C J w φ1 H1/\post C φ1 H1 (f w h1) Q:=by
 cases r with
 |ok a h'=>exact λφ' H' J p t rh wk=>⟨φ',a,h',p,t,rh,wk,post.weak p t h⟩
 |exc a h'=>exact h
 |bad=>exact h
def LQ{J:It}{w:Wk}{φ0:ue t7}{H0:Hp}{tg:Mg}{tst:Ev->PH->Rs Bool}{elt:Me}{Q:VK}{σ:St}{δ:Ev}{h:PH}{js:ue (uf Nat)}(wk:JI C J w φ0 H0)(rh:RH C φ0 H0 h)(re:RE C φ0 H0 δ σ)
  (p:post C φ0 H0 (nC w.g tg tst elt (mK js δ) h.length w.xs (h++[.lst []])) Q) (acc:t7) (hacc:H0 acc=b_):
  ∃W:Nat->Nat->Hp->Prop,(∃m,W 0 m (upd H0 acc (.lst [])))/\∀i m H2,W i m H2->
   (J.stop i H2/\Q (.ref acc) H2)\/(J.go i H2/\∃N:Hp->Prop,(∀H',N H'->∃m',m'<m/\W (i+1) m' H')/\∀x H3,J.yld i H2 x H3->RJ js (rdG C tg) (rdB C tst) (rd C elt) σ acc x H3 N):=by
 have hlen:(φ0++[acc])[h.length]?=a_ acc:=by rw[<-rh.len];simp
 refine⟨λi m H=>m=w.xs.length-i/\i<=w.xs.length/\∃φ h',(φ0++[acc])<+:φ/\Kp H0 H/\RH C φ H h'/\post C φ H (nC w.g tg tst elt (mK js δ) h.length (w.xs.drop i) h') Q,
  ⟨w.xs.length,by simp,cv _,φ0++[acc],h++[.lst []],ba,Kp.new hacc,rh.new (o:=.lst []) hacc ⟨[],bE,trivial⟩,by rw[fq];exact post.weak (fe _ _) (Kp.new hacc) p⟩,?_⟩
 rintro i m H ⟨rfl,hi,φ,h',pp,tt,rh',p⟩;have pp0:φ0<+:φ:=(fe _ _).trans pp;by_cases hlt:i<w.xs.length
 ·have hd:w.xs.drop i=w.xs[i]::w.xs.drop (i+1):=drop_cons (by simp[hlt]);rw[hd]at p;unfold nC at p;by_cases hg:w.g h'=true
  ·rw[if_pos hg]at p;let⟨go,step⟩:=(wk φ H h' pp0 tt rh' hg i).1 hlt;refine .inr ⟨go,λH'=>∃φ h',(φ0++[acc])<+:φ/\Kp H0 H'/\RH C φ H' h'/\post C φ H' (nC w.g tg tst elt (mK js δ) h.length (w.xs.drop (i+1)) h') Q,λH' ⟨φ',h',q⟩=>⟨w.xs.length-(i+1),⋯,rfl,hlt,φ',h',q⟩,λx H' y=>?_⟩;let⟨⟨q,eq,rv⟩,t1,rh1⟩:=step x H' y;have eq':w.xs[i]=q:=by
    have:w.xs[i]?=a_ w.xs[i]:=by simp[hlt]
    rw[this]at eq;exact cy eq
   rw[eq']at p;cases et:tg q (mK js δ) with
   |none=>rw[et]at p;exact p.elim
   |some δ1=>
    rw[et]at p;have re1:RE C φ H' (mK js δ) (mF js σ):=(re.mono pp0 (tt.trans t1)).cap js;refine⟨φ,mK js δ,h',q,δ1,rh1,re1,rv,et,λσ2 re2=>⟨φ,δ1,h',rh1,re2,(cI.bind (post.weak ba t1 p)).imp ?_⟩⟩;rintro b H5 ⟨φ5,h5,p5,t5,rh5,q5⟩;cases b with
    |false=>exact Lc ⟨φ5,h5,pp.trans p5,(tt.trans t1).trans t5,rh5,q5⟩
    |true=>
     refine Ld ⟨φ5,δ1,h5,rh5,re2.mono p5 t5,(post.bind q5).imp ?_⟩;rintro v H6 ⟨φ6,z,h6,p6,t6,rh6,rv6,q6⟩;cases e6:fL h6 h.length with
     |none=>rw[e6]at q6;exact q6.elim
     |some ys=>
      rw[e6]at q6;let⟨hz,q6⟩:=q6.ite;have hφ:φ6[h.length]?=a_ acc:=jP ((pp.trans p5).trans p6) hlen;let⟨vs,hH,rvs⟩:=rh6.at' h.length acc _ hφ (kM e6);refine⟨vs,hH,by rw[<-rvs.length];exact hz,φ6,h6.set h.length (.lst (ys++[z])),(pp.trans p5).trans p6,(((tt.trans t1).trans t5).trans t6).trans (Kp.lst hH),
       rh6.write hφ (by rw[hH];trivial) ⟨vs++[v],bE,(rvs.snoc rv6).mono ba (Kp.lst hH)⟩,post.weak ba (Kp.lst hH) q6⟩
  ·rw[if_neg hg]at p;exact p.elim
 ·have e:i=w.xs.length:=⋯;subst e;rw[List.drop_length]at p;unfold nC at p;by_cases hg:w.g h'=true
  ·rw[if_pos hg]at p;exact .inl ⟨(wk φ H h' pp0 tt rh' hg _).2 (bq _),p.val rh' ⟨acc,rfl,jP pp hlen⟩⟩
  ·rw[if_neg hg]at p;exact p.elim
def Il{tst:Ev->PH->Rs Bool}(h:rd C (cK js mi tg tst elt) σ H Q):HW js (rdI C mi) (rdG C tg) (rdB C tst) (rd C elt) σ H Q:=by let⟨φ,δ,h,rh,re,p⟩:=h;refine⟨φ,δ,h,rh,re,(iJ.bind p).imp ?_⟩;rintro J H1 ⟨φ1,w,h1,p1,t1,rh1,wk,q1⟩;intro acc hacc;exact LQ wk rh1 (re.mono p1 t1) q1 acc hacc
section
variable{elt iter tg:uc}{ifs:ue uc}{sc:Scope}{pos:Pos}{os:Scope}{oN N:ue Str}{js:ue (uf Nat)}{mi:Mi}{g:Mg}{tt:Ev->PH->Rs Bool}{me:Me}
def mL(hes:X.env.scope=os)(heN:X.N=oN)(ok:qF os oN sc N js=true)(hi:SI C k X tg iter mi)
  (hg:∀C' fp s₀ H₀,SG C k (X.comp sc N C' fp s₀ H₀) tg g) (ht:∀C' fp s₀ H₀,STs C k (X.comp sc N C' fp s₀ H₀) ifs tt) (he:∀C' fp s₀ H₀,SE C k (X.comp sc N C' fp s₀ H₀) elt me)
  (hs:∀x,k5 iter X.env x=pure x:=by intro _;rfl):SE C k X (.ListComp elt [⟨tg,iter,ifs,0⟩] sc pos) (cK js mi g tt me):=λc=>
 (Pa c.calm hes heN ok (hi c) (λa b s H=>hg a b s H (c.comp sc N a b s H)) (λa b s H=>ht a b s H (c.comp sc N a b s H)) (λa b s H=>he a b s H (c.comp sc N a b s H)) hs).imp λσ H Q h=>Il h
def oW{spos:Pos}(hN:X.N.Nodup)(hx':X.N[i]?=a_ x)(hloc:X.env.scope.names.lookup x=a_ .local)(hes:X.env.scope=os)(heN:X.N=oN)(ok:qF os oN sc N js=true)(hi:SI C k X tg iter mi)(hg:∀C' fp s₀ H₀,SG C k (X.comp sc N C' fp s₀ H₀) tg g)(ht:∀C' fp s₀ H₀,STs C k (X.comp sc N C' fp s₀ H₀) ifs tt)(he:∀C' fp s₀ H₀,SE C k (X.comp sc N C' fp s₀ H₀) elt me)(hsw:swapsWith (.ListComp elt [⟨tg,iter,ifs,0⟩] sc pos) (a_ (.Name x pos')) spos.line X.env=pure true:=by rfl)(hs:∀x,k5 iter X.env x=pure x:=by intro _;rfl):SSt C k X (.Assign [.Name x pos'] (.ListComp elt [⟨tg,iter,ifs,0⟩] sc pos) spos) (bD i (cK js mi g tt me)):=λc=>(FW hN hx' hloc c.calm hes heN ok (hi c) (λa b s H=>hg a b s H (c.comp sc N a b s H)) (λa b s H=>ht a b s H (c.comp sc N a b s H)) (λa b s H=>he a b s H (c.comp sc N a b s H)) hsw hs).imp λD σ H h=>by let⟨φ,δ,h,rh,re,p⟩:=h;refine Il ⟨φ,δ,h,rh,re,(post.fl p).imp ?_⟩;rintro v H1 ⟨φ1,x,h1,p1,t1,rh1,rv1,q1⟩;exact q1.nx rh1 ((re.mono p1 t1).set rv1 i)
end
def mFn(N:Nat)(body:Ms):Fn:=λargs h=>match body (args.map a_++pf (N-args.length) b_) h with
 |.nx _ h'=>.ok .non h'
 |.rt p h'=>.ok p h'
 |.exc x h'=>.exc x h'
 |_=>.bad
def RE.start{ps:ue PV}(r:RVs C φ H ps vs)(N:ue Str):RE C φ H (ps.map a_++pf (N.length-ps.length) b_) (start N vs):=by
 unfold L2.start;refine⟨by simp[r.length],λi p e=>?_⟩;by_cases hi:i<ps.length
 ·rw[b9 (l_ hi),ar]at e;rw[b9 (by simpa[<-r.length] using hi),ar]
  cases q:ps[i]? with
  |none=>rw[q]at e;cases e
  |some x=>
   rw[q]at e;cases e
   let⟨v,hv,rv⟩:=r.at q;exact⟨v,by rw[hv];rfl,rv⟩
 ·rw[au (l_ hi)]at e;rw[List.getElem?_replicate]at e;split at e
  ·cases e
  ·cases e
def fE{P:ub}{mg:o_ 0}{base:t_}{x qual:Str}{st:ud}{f:t7}{fd:e7}{N ps:ue Str}{body:Ms}(hex:∀φ H x,¬ C.ex φ H x)(hbn:∀x∈C.bs,mg x=b_)
  (F:Fun C.K x qual st f fd) (S:bL N ps (aG st))
  (hb:∀(cdv:s_)(A:t9)(outer:ue Env)(s:tw)(H:Hp)(E:XK),SSs C k (FJ CX0 P C.w C.K mg base N qual (aG st) f cdv A outer s H E).nox (aX st) body):
  bA P C.w C.K mg base CX0 (k+1) f fd ps (spM C ps.length (mFn N.length body)):=by
 refine F.ok S (λvs H Q E h=>?_) (λcdv A outer s H vs Q E hr h=>?_)
 ·let⟨φ,h,xs,rh,rv,hl,_⟩:=h;rw[<-rv.length];exact hl
 ·let⟨φ,h,xs,rh,rv,hl,p⟩:=h;refine⟨_,hb cdv A outer s H E ⟨rfl,rfl,hr,hbn,rfl⟩,φ,xs.map a_++pf (N.length-xs.length) b_,h,rh,RE.start rv N,?_⟩;unfold mFn at p;cases e:body (xs.map a_++pf (N.length-xs.length) b_) h with
  |nx δ h'=>rw[e]at p;exact λφ' σ' H' pp tt rh' re'=>p φ' .non H' pp tt rh' rfl
  |rt z h'=>rw[e]at p;exact p
  |exc z h'=>rw[e]at p;exact λφ' H' pp tt rh'=>(hex _ _ _ (p φ' H' pp tt rh')).elim
  |bk δ h'=>rw[e]at p;exact p.elim
  |ct δ h'=>rw[e]at p;exact p.elim
  |bad=>rw[e]at p;exact p.elim
def Tq{ns:ue Int}(hO:La H)(ho:SqL C.K H a (ns.map V.int))(hf:∃h,f [.fl (ns.map PV.int)] []=.ok (.bl true) h)(hQ:∀H',Q (.bl true) H'):spM C 1 f [.ref a] H Q E:=by
 have r0:∀ns:ue Int,RVs C [] H (ns.map PV.int) (ns.map V.int):=by
  intro ns
  induction ns with
  |nil=>trivial
  |cons n ns ih=>exact⟨rfl,ih⟩
 have hs:SqF C.K H a (ns.map V.int):=by
  rcases ho with(h|⟨o,h⟩)|h
  ·rcases hO a with z|⟨o,xs,z⟩
   ·rw[z]at h;cases h
   ·rw[z]at h;cases h
  ·exact .inl ⟨o,h⟩
  ·exact .inr h
 refine⟨[],[],[.fl (ns.map PV.int)],⟨rfl,by simp,λn b ob h1 h2=>by simp at h1⟩,⟨⟨a,_,rfl,hs,r0 ns⟩,trivial⟩,rfl,?_⟩;let⟨h,e⟩:=hf;rw[e];intro φ' v H' _ _ _ rv;cases rv
 exact hQ H'
end L2
namespace L2
variable{C:MC}{k:Nat}{X:Cx}
def tyN(x:PV)(h:PH):uf String:=match x with
 |.non=>a_ "NoneType"
 |.bl _=>a_ "bool"
 |.int _=>a_ "int"
 |.str _=>a_ "str"
 |.tup _=>a_ "tuple"
 |.fl _=>a_ "list"
 |.ref n=>match h[n]? with
  |some (.lst _)=>a_ "list"
  |some (.dK _)=>a_ "dict"
  |_=>b_
 |.ty _=>b_
def Ed(t c:String):Bool:=t == c || (t == "bool" && c == "int")
def known:ue String:=["int","str","bool","list","tuple","dict"]
def Pm:ue PV->PH->Rs PV:=λxs h=>match xs with
 |[x,.ty c]=>match tyN x h with
  |some t=>if c∈known then .ok (.bl (Ed t c)) h else .bad
  |none=>.bad
 |_=>.bad
def VG:ue PV->PH->Rs PV:=λxs h=>match xs with
 |[.int i,.int j]=>.ok (.int (if j<i then j else i)) h
 |_=>.bad
def mMt(ty:PV->PH->Bool)(g:PV->ue PV->PH->Rs PV)(mo:Me)(ms:Ma):Me:=λδ h=>(mo δ h).bind λx h1=>if ty x h1=true then(ms δ h1).bind λps h2=>g x ps h2 else .bad
def Pn(ty:PV->PH->Bool)(g:PV->ue PV->PH->Rs PV)(mo:Me):Me:=λδ h=>(mo δ h).bind λx h1=>if ty x h1=true then g x [] h1 else .bad
def rM(C:MC)(g:PV->ue PV->PH->Rs PV):V->ue V->Hp->VK->Prop:=λx xs H Q=>∃φ h p ps,RH C φ H h/\RV C φ H p x/\RVs C φ H ps xs/\post C φ H (g p ps h) Q
def MtS(C:MC)(k:Nat)(X:Cx)(T:String)(ty:PV->PH->Bool)(id:String)(g:PV->ue PV->PH->Rs PV):Prop:=Cxt C k X->MtR X id (rM C g)/\∀φ H h p x,RH C φ H h->RV C φ H p x->ty p h=true->tyV C.K T x H
section
variable{o e:uc}{es:ue uc}{mo:Me}{ms:Ma}{name:Str}{apos cpos:Pos}{T id:String}{ty:PV->PH->Bool}{g:PV->ue PV->PH->Rs PV}
def JJ(pa:PlainAttrs T)(slot:Slot T name id)(hty:typeOf (.builtin id)=pure (.type "method_descriptor"))(hm:MtS C k X T ty id g)(ho:SE C k X o mo)(ha:SA C k X (e::es) ms)
  (hbase:my o name X.env (eval o X.env)=eval o X.env:=by rfl)
  (hfew:((backTo cpos (da (e::es) X.env)).all (λx=>!x.1)&&(backToKw cpos (keywordEach [] X.env)).all (λx=>x.1.isSome)
   && decide ((e::es).length+([]:ue Keyword).length+(if([]:ue Keyword).isEmpty then 0 else 1)<30))=true:=by rfl)
  (hline:(apos.endLine == cpos.line)=true:=by rfl) (hs:da (e::es) X.env=(false,eval e X.env)::da es X.env:=by rfl) (hplain:(backTo cpos (da es X.env)).any (·.1)=false:=by rfl):
  SE C k X (.Call (.Attribute o name apos) (e::es) [] cpos) (mMt ty g mo ms):=λc=>(Ve pa slot hty (hm c).1 (ho c) (ha c) hbase hfew hline hs hplain).imp λσ H Q h=>by
 let⟨φ,δ,h,rh,re,p⟩:=h;refine⟨φ,δ,h,rh,re,(post.bind p).imp ?_⟩;rintro v H1 ⟨φ1,x,h1,p1,t1,rh1,rv1,q1⟩;let⟨ht,q1⟩:=q1.ite;refine⟨by rw[c.K];exact(hm c).2 φ1 H1 h1 x v rh1 rv1 ht,φ1,δ,h1,rh1,re.mono p1 t1,(postA.bind q1).imp ?_⟩;rintro vs H2 ⟨φ2,xs,h2,p2,t2,rh2,rv2,q2⟩;exact⟨φ2,h2,x,xs,rh2,rv1.mono p2 t2,rv2,q2⟩
end
theorem MtR.imp{id:String}{r r':V->ue V->Hp->VK->Prop}(h:MtR X id r)(i:∀x xs H Q,r' x xs H Q->r x xs H Q):MtR X id r':=λpins s σ H x xs v us Q I rx rs q=>h pins s σ H x xs v us Q I rx rs (i x xs H Q q)
def isL(x:PV)(h:PH):Bool:=match x with
 |.ref n=>(fL h n).isSome
 |_=>false
def Tr(rh:RH C φ H h)(rv:RV C φ H p x)(e:isL p h=true):tyV C.K "list" x H:=by
 cases p with
 |ref n=>
  let⟨a,rfl,ha⟩:=rv;let⟨xs,hx⟩:=ko.mp (show(fL h n).isSome=true from e)
  let⟨vs,hH,ra⟩:=rh.at' n a _ ha (kM hx);exact .inl ⟨rfl,vs,SqL.of hH⟩
 |_=>cases e
def onL(f:ue PV->ue PV->uf (PV×ue PV)):PV->ue PV->PH->Rs PV:=λx ps h=>match x with
 |.ref n=>match fL h n with
  |some xs=>match f xs ps with
   |some (r,ys)=>.ok r (h.set n (.lst ys))
   |none=>.bad
  |none=>.bad
 |_=>.bad
def Ts{f:ue PV->ue PV->uf (PV×ue PV)}{x:V}{xs:ue V}{H:Hp}{Q:VK}(h:rM C (onL f) x xs H Q):∃φ l ps ys vs r zs,x=.ref l/\H l=a_ (.lst vs)/\RVs C φ H ys vs/\RVs C φ H ps xs/\f ys ps=a_ (r,zs)/\
  ∀(v:V)(ws:ue V),RV C φ H r v->RVs C φ H zs ws->Q v (upd H l (.lst ws)):=by
 let⟨φ,h,p,ps,rh,rx,rs,po⟩:=h;unfold onL at po;cases p with
 |ref n=>
  let⟨a,rfl,ha⟩:=rx;dsimp only at po;cases e:fL h n with
  |none=>rw[e]at po;exact po.elim
  |some ys=>
   rw[e]at po;dsimp only at po;let⟨vs,hH,ra⟩:=rh.at' n a _ ha (kM e);cases ef:f ys ps with
   |none=>rw[ef]at po;exact po.elim
   |some rz=>rw[ef]at po;let⟨r,zs⟩:=rz;exact⟨φ,a,ps,ys,vs,r,zs,rfl,hH,ra,rs,ef,λv ws rv rw'=>po.lset rh ha hH rw' rv⟩
 |_=>exact po.elim
def dE:ue PV->ue PV->uf (PV×ue PV):=λxs ps=>match ps with
 |[p]=>if xs.length<bp then a_ (.non,xs++[p]) else b_
 |_=>b_
def JK:MtR X "list.append" (rM C (onL dE)):=MtR.imp (show MtR X "list.append" HK from AR) λx xs H Q h=>by
 let⟨φ,l,ps,ys,vs,r,zs,rfl,hH,ra,rs,ef,q⟩:=Ts h;unfold dE at ef;split at ef
 ·split at ef
  ·rename_i hz;cases ef
   let⟨v,rfl,rx⟩:=rs.one;exact⟨l,vs,v,rfl,rfl,hH,by rw[<-ra.length];exact hz,q .non _ rfl (ra.snoc rx)⟩
  ·cases ef
 ·cases ef
def kQ:MtS C k X "list" isL "list.append" (onL dE):=λc=>⟨JK,λφ H h p x rh rv e=>Tr rh rv e⟩
def VH(K:ag):R2:=λx y H Q=>∃a b ys,x=.ref a/\y=.ref b/\SqT K H a []/\SqT K H b ys/\Q (.ref b) H
def Po:OpR X (jc .Add) (VH X.K):=by
 intro pins s σ H x y v u Q I rx ry h;let⟨a,b,ys,rfl,rfl,ha,hb,q⟩:=h;cases rx
 cases ry
 let⟨its,r1,p1,_⟩:=I.tuple ha;let⟨its2,r2,p2,_⟩:=I.tuple hb;cases r1
 let⟨⟨cls,dd,data,sl⟩,ho,hc,n,hd⟩:=id p1;let⟨⟨cls2,dd2,data2,sl2⟩,ho2,hc2,n2,hd2⟩:=id p2;simp only at hc hd hc2 hd2;subst hc hd hc2 hd2;exact concat_meets ⟨_,ho,rfl⟩ ⟨_,ho2,rfl⟩ noFill_tuple_add seq_tuple_add PySem.F.slot_tuple_add PySem.F.entry_tuple_add (PySem.F.args_tuple_add_2 _ _)
   (tuple_addW0 a b ([]:ue s_).toArray its2.toArray n n2 dd dd2 sl sl2 (by simp)) ⟨ho,ho2,⟨.ref b,H,I,rfl,q⟩⟩
def bO:PV->PV->PH->Rs PV:=λx y h=>match x,y with
 |.tup [],.tup ys=>.ok (.tup ys) h
 |x,y=>LD x y h
def cB:OpS C k X (jc .Add) bO:=λc=>((Vz c).or (by have:=Po (X:=X);rw[c.K]at this;exact this)).imp λx y H Q h=>by
 let⟨φ,h,p,q,rh,rx,ry,po⟩:=h;unfold bO at po;split at po
 ·let⟨a,vs,rfl,sa,ra⟩:=rx;let⟨b,us,rfl,sb,rb⟩:=ry;have:vs=[]:=by cases vs <;> first|rfl|exact ra.elim
  subst this;exact .inr ⟨a,b,us,rfl,rfl,sa,sb,po.val rh ⟨b,us,rfl,sb,rb⟩⟩
 ·exact .inl ⟨φ,h,p,q,rh,rx,ry,po⟩
end L2
namespace L2
variable{C:MC}{k:Nat}{X:Cx}
def VI:UnS C k X (unaryOp .USub) Pj:=λc=>by
 have h:UnR X (unaryOp .USub) (rU λi=>.int (-i)):=SD;intro pins s σ H x v Q I rx q;refine h pins s σ H x v Q I rx ?_;let⟨φ,h,p,rh,rv,po⟩:=q;unfold Pj at po;cases p with
 |int i=>cases rv;exact⟨i,rfl,po.val rh rfl⟩
 |_=>exact po.elim
end L2
namespace L2
open PySem
@[irreducible]def Rs.W{α:Type}(r:Rs α)(Q:α->PH->Prop):Prop:=match r with
 |.ok a h=>Q a h
 |_=>False
structure FE where
 nx:Ev->PH->Prop
 rt:PV->PH->Prop
 bk:Ev->PH->Prop:=λ_ _=>False
 ct:Ev->PH->Prop:=λ_ _=>False
@[irreducible]def Fl.W(r:Fl)(E:FE):Prop:=match r with
 |.nx δ h=>E.nx δ h
 |.rt p h=>E.rt p h
 |.bk δ h=>E.bk δ h
 |.ct δ h=>E.ct δ h
 |_=>False
@[irreducible]def Lt(b:Ms)(E:FE)(δ:Ev)(h:PH):Prop:=(b δ h).W E
section
unseal Rs.W Fl.W Lt
variable{α β:Type}{Q:α->PH->Prop}{E:FE}{δ:Ev}{h:PH}
@[simp]theorem bZ:(Rs.ok a h).W Q=Q a h:=(rfl)
@[simp]theorem Y7:(Fl.nx δ h).W E=E.nx δ h:=(rfl)
@[simp]theorem Y8:(Fl.rt p h).W E=E.rt p h:=(rfl)
@[simp]theorem Y9:(Fl.bk δ h).W E=E.bk δ h:=(rfl)
@[simp]theorem Y':(Fl.ct δ h).W E=E.ct δ h:=(rfl)
@[simp]theorem G8{Q:β->PH->Prop}{r:Rs α}{f:α->PH->Rs β}:(r.bind f).W Q=r.W λa h=>(f a h).W Q:=by cases r <;> rfl
@[simp]theorem JL{r:Rs α}{f:α->PH->Fl}:(r.fl f).W E=r.W λa h=>(f a h).W E:=by cases r <;> rfl
def LR{Q':α->PH->Prop}{r:Rs α}(h:r.W Q)(i:∀a h,Q a h->Q' a h):r.W Q':=by cases r <;> first|exact i _ _ h|exact h
@[simp]theorem Y0{c:Prop}[Decidable c]{x y:Rs α}:(if c then x else y).W Q=if c then x.W Q else y.W Q:=by split <;> rfl
@[simp]theorem Y1:(Rs.bad:Rs α).W Q=False:=(rfl)
@[simp]theorem XC:Fl.bad.W E=False:=(rfl)
def rT{r:Rs α}(w:r.W Q):∃a h,r=.ok a h/\Q a h:=by
 cases r with
 |ok a h=>exact⟨a,h,rfl,w⟩
 |exc=>exact w.elim
 |bad=>exact w.elim
variable{a b:Ms}{m ma mb mc:Me}{t ta tb:Ev->PH->Rs Bool}{g g':PV->PV->PH->Rs PV}
def nX:(aL a b δ h).W E=(a δ h).W { E with nx:=λδ h=>(b δ h).W E}:=by
 show(match a δ h with|.nx δ1 h1=>b δ1 h1|r=>r).W E=_
 cases a δ h <;> rfl
def aP:(aL a b δ h).W E=(a δ h).W { E with nx:=Lt b E}:=by
 show(match a δ h with|.nx δ1 h1=>b δ1 h1|r=>r).W E=_
 cases a δ h <;> rfl
def now(w:(b δ h).W E):Lt b E δ h:=w
@[simp]theorem iL:(fJ δ h).W E=E.nx δ h:=(rfl)
@[simp]theorem Y2:(XA δ h).W E=E.bk δ h:=(rfl)
@[simp]theorem Y3:(XB δ h).W E=E.ct δ h:=(rfl)
@[simp]theorem eY:(bD i m δ h).W E=(m δ h).W λp h=>E.nx (δ.set i (a_ p)) h:=by simp[bD]
@[simp]theorem LS{t:Mg}:(uD m t δ h).W E=(m δ h).W λp h=>∃δ',t p δ=a_ δ'/\E.nx δ' h:=by
 unfold uD;cases m δ h with
 |ok p h1=>
  show(match t p δ with|some δ'=>Fl.nx δ' h1|none=>.bad).W E=∃δ',t p δ=a_ δ'/\E.nx δ' h1
  cases t p δ <;> simp[Fl.W]
 |exc=>rfl
 |bad=>rfl
@[simp]theorem yR:(mJ m δ h).W E=(m δ h).W λ_ h=>E.nx δ h:=by simp[mJ]
@[simp]theorem LU:(dH m δ h).W E=(m δ h).W E.rt:=by simp[dH]
@[simp]theorem XD:(VF δ h).W E=E.rt .non h:=(rfl)
@[simp]theorem fA:(eG t a b δ h).W E=(t δ h).W λc h=>if c=true then(a δ h).W E else(b δ h).W E:=by
 unfold eG;rw[JL];congr;funext c h;cases c <;> simp
@[simp]theorem jT:mV i δ h=match eK δ i with|some p=>.ok p h|none=>.bad:=(rfl)
@[simp]theorem Im:mC p δ h=.ok p h:=(rfl)
@[simp]theorem cX:aD g ma mb δ h=(ma δ h).bind λx h1=>(mb δ h1).bind λy h2=>g x y h2:=(rfl)
@[simp]theorem XE{g:PV->PH->Rs PV}:mUn g ma δ h=(ma δ h).bind g:=(rfl)
@[simp]theorem fV:aU m δ h=(m δ h).bind tru:=(rfl)
@[simp]theorem Ee:Eb t δ h=(t δ h).bind λb h1=>.ok (!b) h1:=(rfl)
@[simp]theorem rV:kO ta tb δ h=(ta δ h).bind λb h1=>if b=true then tb δ h1 else .ok false h1:=by unfold kO;congr 1;funext b h1;cases b <;> simp
@[simp]theorem Pp:JH ta tb δ h=(ta δ h).bind λb h1=>if b=true then .ok true h1 else tb δ h1:=by unfold JH;congr 1;funext b h1;cases b <;> simp
@[simp]theorem VJ{b:Bool}:VA (.bl b) h=.ok (.bl b) h:=(rfl)
@[simp]theorem Pq:bW ms δ h=(ms δ h).bind λxs h1=>if xs.length<=bp then .ok (.tup xs) h1 else .bad:=(rfl)
@[simp]theorem Pr:fU ms δ h=(ms δ h).bind λxs h1=>if xs.length<=bp then .ok (.ref h1.length) (h1++[.lst xs]) else .bad:=(rfl)
@[simp]theorem UJ:yP δ h=.ok (.ref h.length) (h++[.dK []]):=(rfl)
@[simp]theorem jU:aF δ h=.ok [] h:=(rfl)
@[simp]theorem fF:aA m ms δ h=(m δ h).bind λx h1=>(ms δ h1).bind λxs h2=>.ok (x::xs) h2:=(rfl)
@[simp]theorem Cc{g:ue PV->PH->Rs PV}:mCB g ms δ h=(ms δ h).bind g:=(rfl)
@[simp]theorem fW:cG n f ms δ h=(ms δ h).bind λps h1=>if ps.length=n then f ps h1 else .bad:=(rfl)
@[simp]theorem WH:Th δ h=.ok b_ h:=(rfl)
def LV(x:PV)(h:PH):Rs (uf Int):=match x with
 |.int i=>.ok (a_ i) h
 |_=>.bad
@[simp]theorem Tt:LV (.int i) h=.ok (a_ i) h:=(rfl)
@[simp]theorem Y4:mP m δ h=(m δ h).bind LV:=(rfl)
@[simp]theorem XF:mSl m ml mh δ h=(m δ h).bind λx h1=>(ml δ h1).bind λl h2=>(mh δ h2).bind λu h3=>vSl x l u h3:=(rfl)
@[simp]theorem Tu{ty:PV->PH->Bool}{g:PV->ue PV->PH->Rs PV}:mMt ty g m ms δ h=(m δ h).bind λx h1=>if ty x h1=true then(ms δ h1).bind λps h2=>g x ps h2 else .bad:=(rfl)
@[simp]theorem WI{ty:PV->PH->Bool}{g:PV->ue PV->PH->Rs PV}:Pn ty g m δ h=(m δ h).bind λx h1=>if ty x h1=true then g x [] h1 else .bad:=(rfl)
@[simp]theorem rW:bp=16777216:=by rw[fm]
def Pt(c:(-18446744073709551616<i/\i<18446744073709551616)\/(-18446744073709551616<j/\j<18446744073709551616)):G5 (.int i) (.int j) h=.ok (.int (i*j)) h:=by
 show(if DB i j then _ else _)=_
 exact if_pos c
@[simp]theorem VL(c:(-18446744073709551616<i/\i<18446744073709551616)\/(-18446744073709551616<j/\j<18446744073709551616)):vInt DB (λi j=>i*j) (.int i) (.int j) h=.ok (.int (i*j)) h:=Pt c
@[simp]theorem WJ(c:0<j/\j<1073741824):vInt KU (λi j=>i/j) (.int i) (.int j) h=.ok (.int (i/j)) h:=if_pos c
@[simp]theorem WK(c:0<j):vInt (λ_ j=>0<j) (λi j=>i%j) (.int i) (.int j) h=.ok (.int (i%j)) h:=if_pos c
@[simp]theorem WL{j:Int}(c:0<=j/\j<=1000000/\-18446744073709551616<i/\i<18446744073709551616):vInt Jb (λi j=>i ^ j.toNat) (.int i) (.int j) h=.ok (.int (i ^ j.toNat)) h:=by
 show(if Jb i j then _ else _)=_
 refine if_pos ⟨c.1,c.2.1,?_⟩;let⟨_,_,h1,h2⟩:=c;omega
@[simp]theorem WM:Ah (.int i) (.int j) h=.ok (.int (i-j)) h:=(rfl)
@[simp]theorem WN:Pj (.int i) h=.ok (.int (-i)) h:=(rfl)
@[simp]theorem JM:bO (.int i) (.int j) h=.ok (.int (i+j)) h:=(rfl)
@[simp]theorem B8{x y:Str}(c:x.length+y.length<=16777216):bO (.str x) (.str y) h=.ok (.str (x++y)) h:=if_pos c
@[simp]theorem UK{xs ys:ue PV}(c:xs.length+ys.length<=16777216):bO (.tup xs) (.tup ys) h=.ok (.tup (xs++ys)) h:=by
 cases xs with
 |nil=>rfl
 |cons x xs=>exact if_pos ⟨rfl,c⟩
@[simp]theorem VM{f:Int->Int->Bool}{g:ue Nat->ue Nat->Bool}:Ea f g (.int i) (.int j) h=.ok (.bl (f i j)) h:=(rfl)
@[simp]theorem VN{f:Int->Int->Bool}{g:ue Nat->ue Nat->Bool}{i j:Str}:Ea f g (.str i) (.str j) h=.ok (.bl (g i.cps.toList j.cps.toList)) h:=(rfl)
@[simp]theorem G9{b:Bool}:tru (.bl b) h=.ok b h:=(rfl)
@[simp]theorem WQ:tru .non h=.ok false h:=(rfl)
@[simp]theorem WR:tru (.int i) h=.ok (i != 0) h:=(rfl)
@[simp]theorem WS{xs:ue PV}:tru (.tup xs) h=.ok (!xs.isEmpty) h:=(rfl)
@[simp]theorem VO:ofO (a_ p) h=.ok p h:=(rfl)
@[simp]theorem VP{b:Bool}:ofB (a_ b) h=.ok (.bl b) h:=(rfl)
@[simp]theorem WT:vIx (.tup xs) (.int i) h=ofO (atI xs i) h:=(rfl)
@[simp]theorem XG:vIx (.fl xs) (.int i) h=ofO (atI xs i) h:=(rfl)
def fX(e:h[n]?=a_ (.lst xs)):vIx (.ref n) (.int i) h=ofO (atI xs i) h:=by simp[vIx,aS,e]
@[simp]theorem Pu{z:Str}(c:z.length<=16777216):vIx (.str z) (.int i) h=ofO ((atI z.cps.toList i).map λc=>.str ⟨#[c]⟩) h:=if_pos c
@[simp]theorem VQ{xs:ue PV}:gH [.tup xs] h=.ok (.int xs.length) h:=(rfl)
@[simp]theorem WU{xs:ue PV}:gH [.fl xs] h=.ok (.int xs.length) h:=(rfl)
@[simp]theorem VR{x:Str}(c:x.length<=16777216):gH [.str x] h=.ok (.int x.length) h:=if_pos c
def kU{xs:ue PV}(e:h[n]?=a_ (.lst xs)):gH [.ref n] h=.ok (.int xs.length) h:=by simp[gH,aS,e]
@[simp]theorem WV:VG [.int i,.int j] h=.ok (.int (if j<i then j else i)) h:=(rfl)
@[simp]theorem WW:VE [.int i,.int j] h=.ok (.int (if j>i then j else i)) h:=(rfl)
@[simp]theorem VS:Pm [.int i,.ty c] h=if c∈known then .ok (.bl (Ed "int" c)) h else .bad:=(rfl)
@[simp]theorem VT:Pm [.str i,.ty c] h=if c∈known then .ok (.bl (Ed "str" c)) h else .bad:=(rfl)
@[simp]theorem WX:Pm [.bl i,.ty c] h=if c∈known then .ok (.bl (Ed "bool" c)) h else .bad:=(rfl)
@[simp]theorem VU:Pm [.tup i,.ty c] h=if c∈known then .ok (.bl (Ed "tuple" c)) h else .bad:=(rfl)
def oX(e:h[n]?=a_ (.lst xs)):isL (.ref n) h=true:=by simp[isL,fL,e]
def gK{xs:ue PV}(e:h[n]?=a_ (.lst xs))(c:xs.length<16777216):onL dE (.ref n) [p] h=.ok .non (h.set n (.lst (xs++[p]))):=by simp[onL,fL,e,dE,c]
def Ip{α:Type}{xs:ue α}{i:Int}(h0:0<=i)(h1:i<xs.length):atI xs i=xs[i.toNat]?:=by unfold atI ixN;rw[if_pos h0,if_pos h1];rfl
theorem uG{g:PH->Bool}{E:FE}(I:Nat->Ev->PH->Prop):∀(xs:ue PV)(k:Nat)(δ:Ev)(h:PH),I k δ h->
  (∀i x δ h,k<=i->xs[i-k]?=a_ x->I i δ h->g h=true/\∃δ1,tg x δ=a_ δ1/\(body δ1 h).W { nx:=I (i+1),ct:=I (i+1),rt:=E.rt,bk:=E.nx})->
  (∀δ h,I (k+xs.length) δ h->g h=true/\E.nx δ h)->(iK g tg body xs δ h).W E
 |[],k,δ,h,i0,_,fin=>by let⟨h1,h2⟩:=fin δ h i0;simp[iK,h1,h2]
 |x::xs,k,δ,h,i0,step,fin=>by
  let⟨h1,δ1,h2,h3⟩:=step k x δ h (bq _) (by simp) i0;have go:∀δ2 h2,I (k+1) δ2 h2->(iK g tg body xs δ2 h2).W E:=λδ2 h2 i2=>
   uG I xs (k+1) δ2 h2 i2 (λi y δ h hk hy=>step i y δ h ⋯ (by
    have:i-k=(i-(k+1))+1:=⋯;rw[this,fu];exact hy)) (λδ h hi=>fin δ h (by
    have e:k+(x::xs).length=k+1+xs.length:=by simp;omega
    rw[e];exact hi))
  unfold iK;rw[if_pos h1,h2]
  show Fl.W (match body δ1 h with|.nx δ2 h2=>iK g tg body xs δ2 h2|.ct δ2 h2=>iK g tg body xs δ2 h2|.bk δ2 h2=>.nx δ2 h2|r=>r) E
  cases e:body δ1 h with
  |nx δ2 h2=>rw[e]at h3;exact go δ2 h2 h3
  |ct δ2 h2=>rw[e]at h3;exact go δ2 h2 h3
  |bk δ2 h2=>rw[e]at h3;exact h3
  |rt p h2=>rw[e]at h3;exact h3
  |exc=>rw[e]at h3;exact h3
  |bad=>rw[e]at h3;exact h3
def Cd{j:Int}(I:Nat->Ev->PH->Prop)(e:ms δ h=.ok [.int j] h)(hj:-4611686018427387904<=j/\j<4611686018427387904)(h0:I 0 δ h)(step:∀(q:Nat) δ h,(q:Int)<j->I q δ h->(body (δ.set i (d_ q)) h).W { nx:=I (q+1),ct:=I (q+1),rt:=E.rt,bk:=E.nx})(fin:∀δ h,I j.toNat δ h->E.nx δ h):(eN (vS ms) (gN i) body δ h).W E:=by
 unfold eN vS;rw[e];have hj':-(2 ^ 62)<=j/\j<2 ^ 62:=hj;simp only[Rs.bind_ok,LL,if_pos hj',Rs.fl_ok];refine uG I _ 0 δ h h0 (λq x δ h _ hx hi=>?_) (λδ h hi=>⟨rfl,fin δ h (by rw[eI,j1]at hi;exact hi)⟩);have hq:q<j.toNat:=by have:=(ab.mp hx).1;rw[eI]at this;omega
 rw[j0,rS _ _ _ hq]at hx;cases hx
 refine⟨rfl,_,rfl,?_⟩;rw[Int.zero_add];exact step q δ h ⋯ hi
def Tv{ms:Ma}{i:Nat}{body:Ms}{lo j:Int}(I:Nat->Ev->PH->Prop)(e:ms δ h=.ok [.int lo,.int j] h)(hj:-4611686018427387904<=lo/\lo<4611686018427387904/\-4611686018427387904<=j/\j<4611686018427387904)(h0:I 0 δ h)
  (step:∀(q:Nat) δ h,lo+(q:Int)<j->I q δ h->(body (δ.set i (d_ (lo+q))) h).W { nx:=I (q+1),ct:=I (q+1),rt:=E.rt,bk:=E.nx})
  (fin:∀δ h,I (j-lo).toNat δ h->E.nx δ h):(eN (Ij ms) (gN i) body δ h).W E:=by
 unfold eN Ij;rw[e];have hj':-(2 ^ 62)<=lo/\lo<2 ^ 62/\-(2 ^ 62)<=j/\j<2 ^ 62:=hj;simp only[Rs.bind_ok,LM,if_pos hj',Rs.fl_ok];refine uG I _ 0 δ h h0 (λq x δ h _ hx hi=>?_) (λδ h hi=>⟨rfl,fin δ h (by rw[eI,j1]at hi;exact hi)⟩);have hq:q<(j-lo).toNat:=by have:=(ab.mp hx).1;rw[eI]at this;omega
 rw[j0,rS _ _ _ hq]at hx;cases hx
 exact⟨rfl,_,rfl,step q δ h ⋯ hi⟩
def Tw{xs:ue PV}(I:Nat->Ev->PH->Prop)(e:m δ h=.ok (.tup xs) h\/m δ h=.ok (.fl xs) h)(h0:I 0 δ h)(step:∀(q:Nat) x δ h,xs[q]?=a_ x->I q δ h->∃δ1,tg x δ=a_ δ1/\(body δ1 h).W { nx:=I (q+1),ct:=I (q+1),rt:=E.rt,bk:=E.nx})(fin:∀δ h,I xs.length δ h->E.nx δ h):(eN (aZ m) tg body δ h).W E:=by
 have go:(iK (λ_=>true) tg body xs δ h).W E:=uG I _ 0 δ h h0 (λq x δ h _ hx hi=>⟨rfl,step q x δ h (l_ hx) hi⟩) (λδ h hi=>⟨rfl,fin δ h (l_ hi)⟩);unfold eN aZ;rcases e with e|e <;> rw[e] <;> exact go
def nY{xs:ue PV}{h1:PH}(I:Nat->Ev->PH->Prop)(e:m δ h=.ok (.ref n) h1)(hn:h1[n]?=a_ (.lst xs))(h0:I 0 δ h1)(keep:∀q δ h,q<=xs.length->I q δ h->h[n]?=a_ (.lst xs))(step:∀(q:Nat) x δ h,xs[q]?=a_ x->I q δ h->∃δ1,tg x δ=a_ δ1/\(body δ1 h).W { nx:=I (q+1),ct:=I (q+1),rt:=E.rt,bk:=E.nx})(fin:∀δ h,I xs.length δ h->E.nx δ h):(eN (aZ m) tg body δ h).W E:=by
 have hk:∀{h:PH},h[n]?=a_ (.lst xs)->uE n xs h=true:=λ{h} e=>by
  have e3:aS h n=a_ xs:=by unfold aS;rw[e]
  unfold uE;rw[e3];exact PV.beqs_self xs
 unfold eN aZ;rw[e];have e2:ofSeq (.ref n) h1=.ok ⟨xs,uE n xs⟩ h1:=by
  have e3:aS h1 n=a_ xs:=by unfold aS;rw[hn]
  unfold ofSeq;simp only[e3]
 rw[Rs.bind_ok,e2,Rs.fl_ok];refine uG I _ 0 δ h1 h0 (λq x δ h _ hx hi=>?_) (λδ h hi=>?_)
 ·have hx':xs[q]?=a_ x:=by simpa using hx
  have:=(ab.mp hx').1;exact⟨hk (keep q δ h ⋯ hi),step q x δ h hx' hi⟩
 ·have hi':I xs.length δ h:=by simpa using hi
  exact⟨hk (keep _ δ h (bq _) hi'),fin δ h hi'⟩
def kW{args:ue PV}{Q:PV->PH->Prop}(w:(body (args.map a_++pf (N-args.length) b_) h).W { nx:=λ_ h=>Q .non h,rt:=Q}):(mFn N body args h).W Q:=by
 unfold mFn;cases e:body (args.map a_++pf (N-args.length) b_) h with
 |nx δ h'=>rw[e]at w;exact w
 |rt p h'=>rw[e]at w;exact w
 |_=>rw[e]at w;exact w.elim
@[simp]theorem Y5:gN i p δ=a_ (δ.set i (a_ p)):=(rfl)
@[simp]theorem XH{ps:ue PV}:gTp n u (.tup ps) δ=if ps.length=n then u ps δ else b_:=(rfl)
@[simp]theorem XI{t:Mg}{u:Mgs}{p:PV}{r:ue PV}:gCn t u (p::r) δ=(t p δ).bind (u r):=(rfl)
@[simp]theorem XJ:gNl [] δ=a_ δ:=(rfl)
end
def Ext(h h':PH):Prop:=∀(n:Nat)(o:MO),h[n]?=a_ o->h'[n]?=a_ o
theorem Ext.refl(h:PH):Ext h h:=λ_ _ e=>e
theorem Ext.trans(a:Ext h h1)(b:Ext h1 h2):Ext h h2:=λn o e=>b n o (a n o e)
theorem Ext.app(h g:PH):Ext h (h++g):=λn o e=>by rw[b9 (ab.mp e).1];exact e
theorem Ext.len{h h':PH}(e:Ext h h'):h.length<=h'.length:=by
 rcases Nat.lt_or_ge h'.length h.length with z|z
 ·have:h[h'.length]?=a_ h[h'.length]:=by simp[z]
  have:=(ab.mp (e _ _ this)).1;omega
 ·exact z
def aT{h:PH}:(h++[o])[h.length]?=a_ o:=by simp
def qH{h:PH}(e:h[n]?=a_ o):(h.set n o')[n]?=a_ o':=j4 (ab.mp e).1
def PV.pl:Nat->PV->Bool
 |_,.non=>true
 |_,.int _=>true
 |_,.str _=>true
 |n+1,.tup xs=>xs.all (PV.pl n)
 |_,_=>false
def Iq{x:PV}(h1:x.d=a_ d)(h2:PV.ds xs=a_ ds):PV.ds (x::xs)=a_ (d::ds):=by simp[PV.ds,h1,h2]
def VV(h:PV.ds xs=a_ ds):(PV.tup xs).d=a_ (.tup ds):=by simp[PV.d,h]
def bU(h:(PV.tup xs).d=a_ d):∃ds,PV.ds xs=a_ ds/\d=.tup ds:=by
 unfold PV.d at h;split at h
 ·rename_i ds e;cases h;exact⟨ds,e,rfl⟩
 ·cases h
def dB{x:PV}(h:PV.ds (x::xs)=a_ ds):∃d r,x.d=a_ d/\PV.ds xs=a_ r/\ds=d::r:=by
 unfold PV.ds at h;split at h
 ·rename_i d r e1 e2;cases h;exact⟨d,r,e1,e2,rfl⟩
 ·cases h
def jD:∀(n:Nat)(x:PV),x.pl n=true->∃d,x.d=a_ d/\d.depth<=n:=by
 intro n
 induction n with
 |zero=>intro x h;cases x <;> first|exact⟨_,rfl,bq _⟩|(simp[PV.pl]at h)
 |succ n ih=>
  intro x h;cases x with
  |tup xs=>
   have h:xs.all (PV.pl n)=true:=h;have many:∀(xs:ue PV),xs.all (PV.pl n)=true->∃ds,PV.ds xs=a_ ds/\D.depths ds<=n:=by
    intro xs
    induction xs with
    |nil=>intro _;exact⟨[],rfl,cv _⟩
    |cons x xs ihx=>
     intro h;simp only[ie,cg]at h;let⟨d,h1,h2⟩:=ih x h.1;let⟨ds,h3,h4⟩:=ihx h.2;refine⟨d::ds,Iq h1 h3,?_⟩
     show max d.depth (D.depths ds)<=n
     omega
   let⟨ds,h1,h2⟩:=many xs h;refine⟨.tup ds,VV h1,?_⟩
   show D.depths ds+1<=n+1
   omega
  |_=>first|exact⟨_,rfl,cv _⟩|(simp[PV.pl]at h)
def Ef:∀(n:Nat)(x y:PV)(d e:D),x.pl n=true->y.pl n=true->x.d=a_ d->y.d=a_ e->eqD d e=decide (x=y):=by
 intro n
 induction n with
 |zero=>
  intro x y d e hx hy h1 h2;cases x <;> first|(simp[PV.pl]at hx;done)|skip
  all_goals cases h1
  all_goals cases y <;> first|(simp[PV.pl]at hy;done)|skip
  all_goals cases h2
  all_goals simp only[eqD]
  all_goals rw[gb]
  all_goals simp
 |succ n ih=>
  intro x y d e hx hy h1 h2;have lists:∀(xs ys:ue PV)(ds es:ue D),xs.all (PV.pl n)=true->ys.all (PV.pl n)=true->PV.ds xs=a_ ds->PV.ds ys=a_ es->iN ds es=decide (xs=ys):=by
   intro xs
   induction xs with
   |nil=>
    intro ys ds es _ _ h1 h2;cases h1
    cases ys with
    |nil=>cases h2;rfl
    |cons y ys=>let⟨d,r,_,_,rfl⟩:=dB h2;simp[iN]
   |cons x xs ihx=>
    intro ys ds es hx hy h1 h2;let⟨d,r,g1,g2,rfl⟩:=dB h1;simp only[ie,cg]at hx;cases ys with
    |nil=>cases h2;simp[iN]
    |cons y ys=>let⟨e,q,g3,g4,rfl⟩:=dB h2;simp only[ie,cg]at hy;simp only[iN,ih x y d e hx.1 hy.1 g1 g3,ihx ys r q hx.2 hy.2 g2 g4];rw[gb];simp
  cases x with
  |tup xs=>
   let⟨ds,g1,rfl⟩:=bU h1;cases y with
   |tup ys=>let⟨es,g2,rfl⟩:=bU h2;simp only[eqD,lists xs ys ds es hx hy g1 g2];rw[gb];simp
   |non=>cases h2;simp[eqD]
   |int j=>cases h2;simp[eqD]
   |str j=>cases h2;simp[eqD]
   |_=>simp[PV.pl]at hy
  |non=>
   cases h1
   cases y with
   |tup ys=>let⟨es,g2,rfl⟩:=bU h2;simp[eqD]
   |non=>cases h2;simp[eqD]
   |int j=>cases h2;simp[eqD]
   |str j=>cases h2;simp[eqD]
   |_=>simp[PV.pl]at hy
  |int i=>
   cases h1
   cases y with
   |tup ys=>let⟨es,g2,rfl⟩:=bU h2;simp[eqD]
   |non=>cases h2;simp[eqD]
   |int j=>cases h2;simp only[eqD];rw[gb];simp
   |str j=>cases h2;simp[eqD]
   |_=>simp[PV.pl]at hy
  |str i=>
   cases h1
   cases y with
   |tup ys=>let⟨es,g2,rfl⟩:=bU h2;simp[eqD]
   |non=>cases h2;simp[eqD]
   |int j=>cases h2;simp[eqD]
   |str j=>cases h2;simp only[eqD];rw[gb];simp
   |_=>simp[PV.pl]at hy
  |_=>simp[PV.pl]at hx
section
variable{x y:PV}{h:PH}
def Pv(hx:x.pl 40=true)(hy:y.pl 40=true):C7 x y h=a_ (decide (x=y)):=by let⟨d,h1,h2⟩:=jD 40 x hx;let⟨e,h3,h4⟩:=jD 40 y hy;unfold C7;rw[h1,h3];simp only[h2,if_true,Ef 40 x y d e hx hy h1 h3]
def Ga(hx:x.pl 40=true)(hy:y.pl 40=true):vEq x y h=.ok (.bl (decide (x=y))) h:=by unfold vEq;rw[Pv hx hy];rfl
@[simp]theorem WY:vEq (.int i) (.int j) h=.ok (.bl (decide (i=j))) h:=by rw[Ga rfl rfl];congr 2;simp
@[simp]theorem WZ:vEq (.str i) (.str j) h=.ok (.bl (decide (i=j))) h:=by rw[Ga rfl rfl];congr 2;simp
def LW{ys:ue PV}(hx:x.pl 39=true)(hy:ys.all (PV.pl 39)=true):yK x ys=a_ (decide (x∈ys)):=by
 have key:∀ys:ue PV,ys.all (PV.pl 39)=true->∃ds,PV.ds ys=a_ ds/\D.depths ds<=39/\∀d,x.d=a_ d->(ds.any λe=>eqD e d)=decide (x∈ys):=by
  intro ys
  induction ys with
  |nil=>intro _;exact⟨[],rfl,cv _,λ_ _=>by simp⟩
  |cons y ys ih=>
   intro h;simp only[ie,cg]at h;let⟨e,h1,h2⟩:=jD 39 y h.1;let⟨ds,h3,h4,h5⟩:=ih h.2;refine⟨e::ds,Iq h1 h3,?_,λd hd=>?_⟩
   ·show max e.depth (D.depths ds)<=39
    omega
   ·rw[ou,h5 d hd,Ef 39 y x e d h.1 hx h1 hd,gb];simp only[Bool.or_eq_true,decide_eq_true_eq,bx];constructor
    ·rintro(h|h)
     ·exact .inl h.symm
     ·exact .inr h
    ·rintro(h|h)
     ·exact .inl h.symm
     ·exact .inr h
 let⟨d,h1,h2⟩:=jD 39 x hx;let⟨ds,h3,h4,h5⟩:=key ys hy;unfold yK;rw[h1,h3];simp only[show D.depths ds<=40 by omega,if_true,h5 d h1]
def Gb{ys:ue PV}(e:h[n]?=a_ (.lst ys))(hx:x.pl 39=true)(hy:ys.all (PV.pl 39)=true):yL x (.ref n) h=.ok (.bl (!decide (x∈ys))) h:=by
 have e3:aS h n=a_ ys:=by unfold aS;rw[e]
 unfold yL JF;simp only[e3,LW hx hy];rfl
def LX{xs ys:ue PV}(e1:h[n]?=a_ (.lst xs))(e2:h[m]?=a_ (.lst ys))(hx:xs.all (PV.pl 39)=true)(hy:ys.all (PV.pl 39)=true):C7 (.ref n) (.ref m) h=a_ (decide (xs=ys)):=by
 have e3:yI (.ref n) h=a_ xs:=by unfold yI aS;simp only[e1]
 have e4:yI (.ref m) h=a_ ys:=by unfold yI aS;simp only[e2]
 have hx':(PV.tup xs).pl 40=true:=hx;have hy':(PV.tup ys).pl 40=true:=hy;let⟨d,h1,h2⟩:=jD 40 _ hx';let⟨e,h3,h4⟩:=jD 40 _ hy';let⟨ds,g1,rfl⟩:=bU h1;let⟨es,g2,rfl⟩:=bU h3;have h5:=Ef 40 _ _ _ _ hx' hy' h1 h3;have h2':D.depths ds+1<=40:=h2;have h5':iN ds es=decide (xs=ys):=by have:iN ds es=decide (PV.tup xs=PV.tup ys):=h5;rw[this,gb];simp
 unfold C7;have n1:(PV.ref n).d=b_:=rfl;rw[n1];simp only[e3,e4,g1,g2,show D.depths ds<=40 by omega,if_true,h5']
def rX{xs ys:ue PV}(e1:h[n]?=a_ (.lst xs))(e2:h[m]?=a_ (.lst ys))(hx:xs.all (PV.pl 39)=true)(hy:ys.all (PV.pl 39)=true):vNe (.ref n) (.ref m) h=.ok (.bl (!decide (xs=ys))) h:=by unfold vNe;rw[LX e1 e2 hx hy];rfl
end
end L2
namespace L2
section
variable{α:Type}{a b c d e f g:α}{r:ue α}
def rY{xs:ue α}(i:Nat)(h:xs[i]?=a_ v):atI xs (i:Int)=a_ v:=jZ h
@[simp]theorem Ya:atI (a::r) 0=a_ a:=rY 0 rfl
@[simp]theorem Yb:atI (a::b::r) 1=a_ b:=rY 1 rfl
@[simp]theorem Yc:atI (a::b::c::r) 2=a_ c:=rY 2 rfl
@[simp]theorem Yd:atI (a::b::c::d::r) 3=a_ d:=rY 3 rfl
@[simp]theorem Ye:atI (a::b::c::d::e::r) 4=a_ e:=rY 4 rfl
end
end L2
namespace L2
open PySem.SeqAt
open PySem.AutoSeq1 (wpAny_loadPart')
open PySem.MeetsSeq PySem.MeetsSeq2 PySem.MeetsSeq3
def LY(A:t9)(s:tw)(v u:s_)(b:Bool):Prop:=∀(prog:ub)(w:ua)(E:f_ 0)(Q:f_ 0),Q (.bool b) s->m_ prog w A (richCompare .Lt v u) Q E s
def VW(A:t9)(s:tw)(v u:s_)(d e:D):Prop:=EqAt A s v u (eqD d e)/\(eqD d e=false->∀b,ltD d e=a_ b->LY A s v u b)
abbrev B9(A:t9)(s:tw):ue s_->ue s_->ue D->ue D->Prop:=λvs us ds es=>vs.length=ds.length/\us.length=es.length/\∀(j:Nat) v u d e,vs[j]?=a_ v->us[j]?=a_ u->ds[j]?=a_ d->es[j]?=a_ e->VW A s v u d e
theorem B9.tail(h:B9 A s (v::vs) (u::us) (d::ds) (e::es)):VW A s v u d e/\B9 A s vs us ds es:=⟨h.2.2 0 v u d e rfl rfl rfl rfl,by have:=h.1;simpa using this,by have:=h.2.1;simpa using this,λj v u d e h1 h2 h3 h4=>h.2.2 (j+1) v u d e (l_ h1) (l_ h2) (l_ h3) (l_ h4)⟩
def rZ(l b:t7)(items items2:Array s_)(n n2:Nat)(dd dd2:uf t7)(sl sl2:n_ 0)(ds es:ue D)(c:Bool)(hc:qG ds es=a_ c):
  Meets (Builtin.«tuple.__lt__» ⟨[.ref l,.ref b],[]⟩)
   (λA R s=>s.heap.get? l=a_ {cls:=.type "tuple",dict:=dd,data:=.seq items n,slots:=sl}/\s.heap.get? b=a_ {cls:=.type "tuple",dict:=dd2,data:=.seq items2 n2,slots:=sl2}/\
    B9 A.in1 s items.toList items2.toList ds es/\R (.ok (.ret (.bool c))) s):=
 .of_wp λprog w A R s h=>by
  let⟨hp,g,d,tk,os⟩:=s;let⟨hl,hb,hit,h⟩:=h;have f2:=AutoSeq1.sub_tuple_tuple;have z1:items.size=ds.length:=by rw[<-hit.1];simp
  have z2:items2.size=es.length:=by rw[<-hit.2.1];simp
  wp_walk using wpAny_loadPart' hl,wpAny_loadPart' hb,rg _ (λrest b s'=>b.1=b_/\s'=⟨hp,g,d,tk,os⟩/\∃(vs ws:ue s_)(ns' ms':ue D),rest=vs.zip ws/\
   B9 A.in1 ⟨hp,g,d,tk,os⟩ vs ws ns' ms'/\ns'.length+items2.size=ms'.length+items.size/\qG ns' ms'=a_ c) _
  case turn=>
   rintro⟨y,x⟩ rest b s' ⟨hb',rfl,vs,ws,ns',ms',hz,hvi,hlen,hR⟩;cases vs with
   |nil=>rw[List.zip_nil_left]at hz;cases hz
   |cons v vs=>
    cases ws with
    |nil=>rw[List.zip_nil_right]at hz;cases hz
    |cons u ws=>
     rw[List.zip_cons_cons]at hz;injection hz with hyx hrest;injection hyx with hy hx;subst hy hx;cases ns' with
     |nil=>have:=hvi.1;simp at this
     |cons a ns'=>
      cases ms' with
      |nil=>have:=hvi.2.1;simp at this
      |cons e ms'=>
       let⟨⟨h1,h2⟩,ht⟩:=B9.tail hvi;simp only[dm]at hlen;simp only[qG]at hR;refine aa (h1 prog w _ _ ?_);cases q:eqD a e with
       |true=>
        rw[q,if_pos rfl]at hR
        wp_walk
        exact⟨rfl,rfl,_,_,_,_,hrest,ht,⋯,hR⟩
       |false=>
        rw[q,if_neg cu]at hR;have hri:=h2 q c hR prog w
        wp_walk using hri
        exact⟨_,rfl,l_ h⟩
  case fin=>
   rintro⟨b1,b2⟩ s' ⟨hb',rfl,vs,ws,ns',ms',hz,hvi,hlen,hR⟩;simp only at hb';subst hb';have hv:c=decide (items.size<items2.size):=by
    cases ns' with
    |nil=>
     cases ms' with
     |nil=>
      simp only[List.length_nil]at hlen;simp only[qG]at hR;cases hR
      exact(decide_eq_false ⋯).symm
     |cons e ms'=>
      simp only[List.length_nil,dm]at hlen;simp only[qG]at hR;cases hR
      exact(decide_eq_true ⋯).symm
    |cons a ns'=>
     cases ms' with
     |nil=>
      simp only[List.length_nil,dm]at hlen;simp only[qG]at hR;cases hR
      exact(decide_eq_false ⋯).symm
     |cons e ms'=>
      exfalso;cases vs with
      |nil=>have:=hvi.1;simp at this
      |cons v vs=>
       cases ws with
       |nil=>have:=hvi.2.1;simp at this
       |cons u ws=>rw[List.zip_cons_cons]at hz;cases hz
   rw[hv]at h
   wp_walk
   exact⟨_,rfl,by simpa[Builtin.Tuple.tupleCompareSizes] using h⟩
  case h=>exact⟨rfl,rfl,items.toList,items2.toList,ds,es,rfl,hit,⋯,hc⟩
section
variable{X:Cx}{pins:g_ 0}{σ:St}{H:Hp}{s:tw}
def XM(I:Inv X pins σ H s):∀(n:Nat)(d e:D)(A:t9)(x y:V)(v u:s_)(b:Bool),d.depth<=n->A.units+n<cLine->Rep X.K H d x->Rep X.K H e y->RelV x v->RelV y u->ltD d e=a_ b->LY A s v u b:=by
 intro n
 induction n with
 |zero=>
  intro d e A x y v u b hd hu hx hy rx ry hb;cases d with
  |tup ds=>exact absurd hd (by show ¬ D.depths ds+1<=0;omega)
  |int i=>
   cases e with
   |int j=>
    cases hx;cases hy;let⟨t,rfl⟩:=rx;let⟨t',rfl⟩:=ry;simp only[ltD]at hb;cases hb
    exact λprog w E Q q=>(PyProof.Rows.lt_int q:m_ prog w A (d6 .Lt _ _) Q E s)
   |_=>simp[ltD]at hb
  |str i=>
   cases e with
   |str j=>
    cases hx;cases hy;let⟨t,rfl⟩:=rx;let⟨t',rfl⟩:=ry;simp only[ltD]at hb;cases hb
    exact λprog w E Q q=>(PyProof.Rows.lt_str q:m_ prog w A (d6 .Lt _ _) Q E s)
   |_=>simp[ltD]at hb
  |_=>cases e <;> simp[ltD]at hb
 |succ n ih=>
  intro d e A x y v u b hd hu hx hy rx ry hb;by_cases h0:d.depth<=n
  ·exact ih d e A x y v u b h0 ⋯ hx hy rx ry hb
  ·cases d with
   |tup ds=>
    cases e with
    |tup es=>
     have hds:D.depths ds<=n:=by have:D.depths ds+1<=n+1:=hd;omega
     let⟨a,vs,rfl,q,r⟩:=hx;cases rx
     let⟨its,rv,p,_⟩:=I.tuple q;let⟨a',vs',rfl,q',r'⟩:=hy;cases ry
     let⟨its',rv',p',_⟩:=I.tuple q';have hb':qG ds es=a_ b:=by simpa[ltD] using hb
     let⟨⟨cls,dd,data,sl⟩,ho,hc,m,hdt⟩:=id p;let⟨⟨cls2,dd2,data2,sl2⟩,ho2,hc2,m2,hd2⟩:=id p';simp only at hc hdt hc2 hd2;subst hc hdt hc2 hd2;intro prog w E Q hq;refine richCompare_meets_room (op:=.Lt) ⟨_,ho,rfl⟩ ⟨_,ho2,rfl⟩ PySem.F.slot_tuple_lt PySem.F.entry_tuple_lt (PySem.F.args_tuple_lt_2 _ _) (rZ a a' its.toArray its'.toArray m m2 dd dd2 sl sl2 ds es b hb')
      ⟨ho,ho2,⟨?_,?_,?_⟩,show Value.bool b≠Value.notImplemented/\Q (.bool b) s from⟨(λx=>nomatch x),hq⟩⟩ ⋯
     ·have l1:=r.length;have l3:=rv.length
      show its.length=ds.length
      omega
     ·have l1:=r'.length;have l3:=rv'.length
      show its'.length=es.length
      omega
     ·intro j v u d e h1 h2 h3 h4;let⟨xv,hxv,hrx⟩:=r.at h3;let⟨yv,hyv,hry⟩:=r'.at h4;let⟨xu,hxu,hru⟩:=rv.get hxv;let⟨yu,hyu,hru'⟩:=rv'.get hyv;have e1:v=xu:=by have:its[j]?=a_ v:=h1;rw[hxu]at this;exact(cy this).symm
      have e2:u=yu:=by have:its'[j]?=a_ u:=h2;rw[hyu]at this;exact(cy this).symm
      subst e1 e2;have hdj:=D.depths_le h3;refine⟨Lw I (n:=n) ⋯ ?_ hrx hry hru hru',λ_ b hb=>ih d e _ xv yv v u b ⋯ ?_ hrx hry hru hru' hb⟩
      all_goals (show A.units+1+n<cLine;omega)
    |_=>simp[ltD]at hb
   |_=>exact absurd (cv n) h0
end
variable{C:MC}{k:Nat}{X:Cx}
def LZ(x y:PV):uf Bool:=match x.d,y.d with
 |some d,a_ e=>if d.depth<=40 then ltD d e else b_
 |_,_=>b_
def jV:PV->PV->PH->Rs PV:=λx y h=>match x,y with
 |.tup xs,.tup ys=>ofB (LZ (.tup xs) (.tup ys)) h
 |x,y=>vLt x y h
def Tx(hu:X.A.units+64<cLine)(K:ag)(hK:X.K=K):OpR X (d6 .Lt) (λx y H Q=>∃d e b,Rep K H d x/\Rep K H e y/\d.depth<=40/\ltD d e=a_ b/\Q (.bl b) H):=by subst hK;intro pins s σ H x y v u Q I rx ry h;let⟨d,e,b,hx,hy,hd,hb,q⟩:=h;exact XM I 40 d e X.A x y v u b hd ⋯ hx hy rx ry hb X.prog X.w X.xe _ ⟨.bl _,H,I,rfl,q⟩
def Gc:OpS C k X (d6 .Lt) jV:=λc=>((Tx c.hu64 C.K c.K).or (Xw c)).imp λx y H Q h=>by
 let⟨φ,h,p,q,rh,rx,ry,po⟩:=h;unfold jV at po;split at po
 ·let⟨b,e,po⟩:=po.ofB;unfold LZ at e;split at e
  ·rename_i d e' h1 h2;split at e
   ·rename_i hd;exact .inl ⟨d,e',b,rx.rep h1,ry.rep h2,hd,e,po.val rh rfl⟩
   ·cases e
  ·cases e
 ·exact .inr ⟨φ,h,p,q,rh,rx,ry,po⟩
section
variable{h:PH}
@[simp]theorem UL:jV (.int i) (.int j) h=.ok (.bl (decide (i<j))) h:=(rfl)
@[simp]theorem UM{i j:Str}:jV (.str i) (.str j) h=.ok (.bl (decide (i.cps.toList<j.cps.toList))) h:=(rfl)
def ltL(f:PV->PV->uf Bool):ue PV->ue PV->uf Bool
 |[],[]=>a_ false
 |[],_::_=>a_ true
 |_::_,[]=>a_ false
 |x::xs,y::ys=>if x=y then ltL f xs ys else f x y
def ltP:Nat->PV->PV->uf Bool
 |_,.int a,.int b=>a_ (decide (a<b))
 |_,.str a,.str b=>a_ (decide (a.cps.toList<b.cps.toList))
 |n+1,.tup xs,.tup ys=>ltL (ltP n) xs ys
 |_,_,_=>b_
def M0:∀(n:Nat)(x y:PV)(d e:D),x.pl n=true->y.pl n=true->x.d=a_ d->y.d=a_ e->ltD d e=ltP n x y:=by
 intro n
 induction n with
 |zero=>
  intro x y d e hx hy h1 h2;cases x <;> first|(simp[PV.pl]at hx;done)|skip
  all_goals cases h1
  all_goals cases y <;> first|(simp[PV.pl]at hy;done)|skip
  all_goals cases h2
  all_goals simp[ltD,ltP]
 |succ n ih=>
  intro x y d e hx hy h1 h2;have lists:∀(xs ys:ue PV)(ds es:ue D),xs.all (PV.pl n)=true->ys.all (PV.pl n)=true->PV.ds xs=a_ ds->PV.ds ys=a_ es->qG ds es=ltL (ltP n) xs ys:=by
   intro xs
   induction xs with
   |nil=>
    intro ys ds es _ _ h1 h2;cases h1
    cases ys with
    |nil=>cases h2;simp[qG,ltL]
    |cons y ys=>let⟨d,r,_,_,rfl⟩:=dB h2;simp[qG,ltL]
   |cons x xs ihx=>
    intro ys ds es hx hy h1 h2;let⟨d,r,g1,g2,rfl⟩:=dB h1;simp only[ie,cg]at hx;cases ys with
    |nil=>cases h2;simp[qG,ltL]
    |cons y ys=>let⟨e,q,g3,g4,rfl⟩:=dB h2;simp only[ie,cg]at hy;simp only[qG,ltL,Ef n x y d e hx.1 hy.1 g1 g3,ihx ys r q hx.2 hy.2 g2 g4,ih x y d e hx.1 hy.1 g1 g3,decide_eq_true_eq]
  cases x with
  |tup xs=>
   let⟨ds,g1,rfl⟩:=bU h1;cases y with
   |tup ys=>let⟨es,g2,rfl⟩:=bU h2;simp only[ltD,lists xs ys ds es hx hy g1 g2,ltP]
   |non=>cases h2;simp[ltD,ltP]
   |int j=>cases h2;simp[ltD,ltP]
   |str j=>cases h2;simp[ltD,ltP]
   |_=>simp[PV.pl]at hy
  |non=>cases h1;cases y <;> first|(simp[PV.pl]at hy;done)|(let⟨es,g2,rfl⟩:=bU h2;simp[ltD,ltP];done)|(cases h2;simp[ltD,ltP])
  |int i=>cases h1;cases y <;> first|(simp[PV.pl]at hy;done)|(let⟨es,g2,rfl⟩:=bU h2;simp[ltD,ltP];done)|(cases h2;simp[ltD,ltP])
  |str i=>cases h1;cases y <;> first|(simp[PV.pl]at hy;done)|(let⟨es,g2,rfl⟩:=bU h2;simp[ltD,ltP];done)|(cases h2;simp[ltD,ltP])
  |_=>simp[PV.pl]at hx
def M3(hx:(PV.tup xs).pl 40=true)(hy:(PV.tup ys).pl 40=true)(e:ltL (ltP 39) xs ys=a_ b):jV (.tup xs) (.tup ys) h=.ok (.bl b) h:=by let⟨d,h1,h2⟩:=jD 40 _ hx;let⟨d',h3,h4⟩:=jD 40 _ hy;have:=M0 40 _ _ d d' hx hy h1 h3;have e':ltP 40 (.tup xs) (.tup ys)=a_ b:=e;unfold jV LZ;simp only[h1,h3,h2,if_true,this,e'];rfl
end
end L2
namespace L2
variable{C:MC}{k:Nat}{X:Cx}
def M4:ue PV->uf (ue Int)
 |[]=>a_ []
 |.int i::r=>(M4 r).map (i::·)
 |_::_=>b_
open Classical in
noncomputable def JN:PV->PV->PH->Rs PV:=λx y h=>match x,y with
 |.str z,.int n=>if z.length<=16/\-(2 ^ 63)<=n/\n<=1000 then .ok (.str (Txt.mul z n)) h else .bad
 |_,_=>.bad
def RQ:OpS C k X (jc .Mult) JN:=λc=>by
 intro pins s σ H x y v u Q I rx ry h;let⟨φ,h,p,q,rh,rp,rq,po⟩:=h;unfold JN at po;split at po
 ·cases rp;cases rq;let⟨t,rfl⟩:=rx;let⟨t',rfl⟩:=ry;let⟨⟨h1,h2,h3⟩,po⟩:=po.ite;refine PySem.W.KXi.mul rfl h1 h2 ⋯ λt'' tk _ _=>⟨.str _,H,I.tok _,⟨_,rfl⟩,po.val rh rfl⟩
 ·exact po.elim
end L2
namespace L2
open PySem
section
variable{h:PH}{lo hi:uf Int}
@[simp]theorem Pw:vSl (.tup xs) lo hi h=.ok (.tup (iF xs lo hi)) h:=(rfl)
@[simp]theorem XN:vSl (.fl xs) lo hi h=.ok (.ref h.length) (h++[.lst (iF xs lo hi)]):=(rfl)
def Px(e:h[n]?=a_ (.lst xs)):vSl (.ref n) lo hi h=.ok (.ref h.length) (h++[.lst (iF xs lo hi)]):=by
 have e3:aS h n=a_ xs:=by unfold aS;rw[e]
 unfold vSl;simp only[e3]
@[simp]theorem XO:vIs (.bl a) (.bl b) h=.ok (.bl (a == b)) h:=(rfl)
@[simp]theorem UN:LH (.bl a) (.bl b) h=.ok (.bl (!(a == b))) h:=(rfl)
@[simp]theorem X0:vIs x .non h=.ok (.bl (mI x)) h:=(rfl)
@[simp]theorem Tz:LH x .non h=.ok (.bl (!mI x)) h:=(rfl)
def sC{i:Int}(h0:0<=i):HT.sIx n d (a_ i)=min i.toNat n:=by
 show(if i<0 then(i+(n:Int)).toNat else min i.toNat n)=_
 rw[if_neg ⋯]
def TB{α:Type}{xs:ue α}{j:Int}(h0:0<=j):iF xs b_ (a_ j)=xs.take j.toNat:=by unfold iF;rw[sC h0];simp only[HT.sIx,fq,j0];rw[List.take_eq_take_iff];omega
def Py{α β:Type}{f:α->β}{xs:ue α}:iF (xs.map f) lo hi=(iF xs lo hi).map f:=by unfold iF;rw[aq,List.map_take,List.map_drop]
end
section
variable{δ:Ev}{h h1:PH}{js:ue (uf Nat)}{tg:Mg}{tst:Ev->PH->Rs Bool}{elt:Me}{g:PH->Bool}{n:Nat}
theorem Ce{Q:PV->PH->Prop}(I:Nat->PH->Prop):∀(xs:ue PV)(k:Nat)(h:PH),I k h->
  (∀i x h,k<=i->xs[i-k]?=a_ x->I i h->g h=true/\∃δ1,tg x δ0=a_ δ1/\(tst δ1 h).W λb h'=>if b=true then(elt δ1 h').W λp h''=>∃ys,h''[n]?=a_ (.lst ys)/\ys.length<16777216/\I (i+1) (h''.set n (.lst (ys++[p]))) else I (i+1) h')->
  (∀h,I (k+xs.length) h->g h=true/\Q (.ref n) h)->(nC g tg tst elt δ0 n xs h).W Q
 |[],k,h,i0,_,fin=>by let⟨h1,h2⟩:=fin h i0;simp[nC,h1,h2]
 |x::xs,k,h,i0,step,fin=>by
  let⟨h1,δ1,h2,h3⟩:=step k x h (bq _) (by simp) i0;have go:∀h2,I (k+1) h2->(nC g tg tst elt δ0 n xs h2).W Q:=λh2 i2=>
   Ce I xs (k+1) h2 i2 (λi y h hk hy=>step i y h ⋯ (by
    have:i-k=(i-(k+1))+1:=⋯;rw[this,fu];exact hy)) (λh hi=>fin h (by
    have e:k+(x::xs).length=k+1+xs.length:=by simp;omega
    rw[e];exact hi))
  unfold nC;rw[if_pos h1,h2]
  show(Rs.bind (tst δ1 h) _).W Q
  rw[G8];refine LR h3 λb h' hb=>?_;cases b with
  |false=>exact go h' (l_ hb)
  |true=>
   show(Rs.bind (elt δ1 h') _).W Q
   rw[G8];refine LR (show(elt δ1 h').W _ from by simpa using hb) λp h'' hp=>?_
   let⟨ys,e,hz,hi⟩:=hp;have e':fL h'' n=a_ ys:=by unfold fL;rw[e]
   simp[e',hz];exact go _ hi
theorem Ba{α:Type}{ys:ue α}{emb:α->PV}(f:α->uf PV)(e:mi δ h=.ok ⟨ys.map emb,g⟩ h1)(hg:∀h,Ext h1 h->g h=true)(hz:ys.length<=16777216)(step:∀y∈ys,∃δ1,tg (emb y) (mK js δ)=a_ δ1/\∀h,Ext h1 h->match f y with
   |none=>tst δ1 h=.ok false h
   |some p=>tst δ1 h=.ok true h/\elt δ1 h=.ok p h):cK js mi tg tst elt δ h=.ok (.ref h1.length) (h1++[.lst (ys.filterMap f)]):=by
 have w:(cK js mi tg tst elt δ h).W λp h'=>p=.ref h1.length/\h'=h1++[.lst (ys.filterMap f)]:=by
  unfold cK;rw[e,Rs.bind_ok];refine Ce (λi h'=>h'=h1++[.lst ((ys.take i).filterMap f)]) (ys.map emb) 0 _ (by simp) (λi x h' _ hx hi=>?_) (λh' hi=>?_)
  ·subst hi;have hx:(ys.map emb)[i]?=a_ x:=by simpa using hx
   rw[ar]at hx;let⟨y,hy,rfl⟩:=br.mp hx;have hil:=(ab.mp hy).1;let⟨δ1,ht,hs⟩:=step y (cq hy);have hs:=hs (h1++[.lst ((ys.take i).filterMap f)]) (Ext.app _ _);have htk:ys.take (i+1)=ys.take i++[y]:=by rw[ka,hy];rfl
   refine⟨hg _ (Ext.app _ _),δ1,ht,?_⟩;cases ef:f y with
   |none=>rw[ef]at hs;rw[hs];simp[htk,ef]
   |some p=>rw[ef]at hs;rw[hs.1];simp[hs.2];refine⟨?_,by simp[htk,ef]⟩;have:=List.length_filterMap_le f (ys.take i);rw[cf]at this;omega
  ·subst hi;simp;exact hg _ (Ext.app _ _)
 let⟨p,h',e,rfl,rfl⟩:=rT w;exact e
def M5(e:m δ h=.ok (.ref n) h1)(hn:h1[n]?=a_ (.lst xs)):aZ m δ h=.ok ⟨xs,uE n xs⟩ h1:=by
 unfold aZ;have e3:aS h1 n=a_ xs:=by unfold aS;rw[hn]
 rw[e,Rs.bind_ok];unfold ofSeq;simp only[e3]
def M6(hn:h1[n]?=a_ (.lst xs)):∀h,Ext h1 h->uE n xs h=true:=λh hx=>by
 have e3:aS h n=a_ xs:=by unfold aS;rw[hx _ _ hn]
 unfold uE;rw[e3];exact PV.beqs_self xs
def M7(e:m δ h=.ok (.tup xs) h1):aZ m δ h=.ok ⟨xs,λ_=>true⟩ h1:=by unfold aZ;rw[e];rfl
theorem jE{α:Type}{ys:ue α}{emb:α->PV}(f:α->uf PV)(e:m δ h=.ok (.ref n) h1)(hn:h1[n]?=a_ (.lst (ys.map emb)))(hz:ys.length<=16777216)(step:∀y∈ys,∃δ1,tg (emb y) (mK js δ)=a_ δ1/\∀h,Ext h1 h->match f y with
   |none=>tst δ1 h=.ok false h
   |some p=>tst δ1 h=.ok true h/\elt δ1 h=.ok p h):cK js (aZ m) tg tst elt δ h=.ok (.ref h1.length) (h1++[.lst (ys.filterMap f)]):=
 Ba f (M5 e hn) (M6 hn) hz step
theorem JO{α:Type}{ys:ue α}{emb:α->PV}(f:α->uf PV)(e:m δ h=.ok (.tup (ys.map emb)) h1)(hz:ys.length<=16777216)(step:∀y∈ys,∃δ1,tg (emb y) (mK js δ)=a_ δ1/\∀h,Ext h1 h->match f y with
   |none=>tst δ1 h=.ok false h
   |some p=>tst δ1 h=.ok true h/\elt δ1 h=.ok p h):cK js (aZ m) tg tst elt δ h=.ok (.ref h1.length) (h1++[.lst (ys.filterMap f)]):=
 Ba f (M7 e) (λ_ _=>rfl) hz step
end
end L2
namespace L2
section
variable{X:Cx}{pins:g_ 0}{σ:St}{H:Hp}{s:tw}{C:MC}{φ:ue t7}
mutual
theorem M8(I:Inv X pins σ H s)(hK:X.K=C.K):∀(n:Nat){p:PV}{v:V}{u:s_},p.ky n=true->RV C φ H p v->RelV v u->HR s.heap p u
 |_,.int i,v,u,_,r,ru=>by cases r;exact ru
 |_,.str i,v,u,_,r,ru=>by cases r;exact ru
 |n+1,.tup ps,v,u,hk,r,ru=>by
  let⟨a,vs,rfl,q,rs⟩:=r;cases ru
  rw[<-hK]at q;let⟨its,rv,p,_⟩:=I.tuple q;exact⟨a,its,rfl,p,xH I hK n (ay.mp hk) rs rv⟩
 |0,.tup _,_,_,hk,_,_=>by cases hk
 |n,.non,_,_,hk,_,_=>by cases n <;> cases hk
 |n,.bl _,_,_,hk,_,_=>by cases n <;> cases hk
 |n,.ref _,_,_,hk,_,_=>by cases n <;> cases hk
 |n,.ty _,_,_,hk,_,_=>by cases n <;> cases hk
 |n,.fl _,_,_,hk,_,_=>by cases n <;> cases hk
theorem xH(I:Inv X pins σ H s)(hK:X.K=C.K):∀(n:Nat){ps:ue PV}{vs:ue V}{us:ue s_},(∀p∈ps,p.ky n=true)->RVs C φ H ps vs->aR vs us->HRs s.heap ps us
 |_,[],[],us,_,_,ru=>by cases ru;trivial
 |n,p::ps,v::vs,us,hk,r,ru=>by
  cases ru with
  |cons h t=>exact⟨M8 I hK n (hk p aw) r.1 h,xH I hK n (λq hq=>hk q (aj _ hq)) r.2 t⟩
 |_,[],_::_,_,_,r,_=>r.elim
 |_,_::_,[],_,_,r,_=>r.elim
end
abbrev pP:ue (PV×t7×V)->ue (PV×t7×s_)->Prop:=Paired λp q=>p.1=q.1/\p.2.1=q.2.1/\RelV p.2.2 q.2.2
def HD(C:MC)(φ:ue t7)(H:Hp)(X:Cx)(s:tw)(a:t7)(kvs:ue (PV×PV)):Prop:=
 ∃ks xs,RKd C φ H kvs ks/\pP ks xs/\xs.length<=bp/\(a == j7)=false/\s.heap.DictOfH (nR X.prog X.w) a xs
def bC(h:PH)(n:Nat):uf (ue (PV×PV)):=match h[n]? with
 |some (.dD kvs)=>a_ kvs
 |some (.dK [])=>a_ []
 |_=>b_
def PV.isKt:PV->Bool
 |.tup xs=>(PV.tup xs).ky 6
 |_=>false
def sD{p:PV}(h:p.isKt=true):p.ky 6=true:=by cases p <;> first|exact h|cases h
def mM{p:PV}{v:V}(h:p.isKt=true)(r:RV C φ H p v):∃b,v=.ref b:=by cases p <;> first|(let⟨b,_,e,_⟩:=r;exact⟨b,e⟩)|cases h
def sE{h:PH}{n:Nat}{a:t7}{kvs:ue (PV×PV)}(I:Inv X pins σ H s)(hK:X.K=C.K)(hw:X.w=C.w)(rh:RH C φ H h)(ha:φ[n]?=a_ a)(e:bC h n=a_ kvs):HD C φ H X s a kvs/\Mut (H a)/\DZ (H a):=by
 unfold bC at e;split at e
 ·rename_i kv hk;cases e
  let⟨ks,hH,r⟩:=rh.at' n a _ ha hk;have hO:dS X.prog X.w H s.heap a (dDO C.w a ks):=I.hok a _ hH;let⟨⟨hz,hm,xs,rx,o,es,ep,h1,h2,h3,h4,h5⟩,_⟩:=hO;refine⟨⟨ks,xs,r,rx,by rw[<-ft rx];exact hz,hm,o,es,ep,h1,h2,h3,?_,?_,h5⟩,by rw[hH];exact pe,by rw[hH];exact pe⟩
  ·rw[h4,<-hw];rfl
  ·have all:∀{l:ue (PV×PV)}{m:ue (PV×t7×V)}{z:ue (PV×t7×s_)},RKd C φ H l m->pP m z->∀x∈z,(nR X.prog X.w).is s.heap x.1 x.2.1:=by
    intro l m z q;unfold RKd at q
    induction q generalizing z with
    |nil=>intro rz x hx;cases rz;cases hx
    |cons hq t ih=>
     intro rz x hx;cases rz with
     |cons hz' tz=>
      rcases bx.mp hx with e|hx
      ·subst e;refine⟨?_,?_⟩
       ·rw[<-hz'.1,<-hq.1];exact hq.2.1
       ·rw[<-hz'.1,<-hq.1,<-hz'.2.1];exact M8 I hK 6 hq.2.1 hq.2.2.1 rfl
      ·exact ih tz x hx
   exact all r rx
 ·rename_i hk;cases e
  let⟨ks,hH,r⟩:=rh.at' n a _ ha hk;have:ks=[]:=by cases r;rfl
  subst this;let⟨z,hd,vs,rel,o,es,ep,h1,h2,h3,h4,h5,h6⟩:=HM I.hok hH;have:vs=[]:=by cases rel;rfl
  subst this;refine⟨⟨[],[],.nil,.nil,cv _,hd,o,es,ep,h1,h2,h3,?_,(λx hx=>nomatch hx),List.nodup_nil⟩,by rw[hH];exact pe,by rw[hH];exact pe⟩;cases he:es.toList with
  |nil=>rfl
  |cons y ys=>rw[he]at h5;cases h5
 ·cases e
theorem HD.val{a:t7}(r:RKd C φ H kvs ks)(rx:pP ks xs)(k:PV):match bQ kvs k,(atKey xs k).map (·.2) with
  |some p,a_ u=>∃v,RelV v u/\RV C φ H p v
  |none,b_=>True
  |_,_=>False:=by
 unfold RKd at r
 induction r generalizing xs with
 |nil=>cases rx;trivial
 | @cons p q ps qs h t ih=>
  cases rx with
  | @cons q' x qs' xs' hx tx=>
   let⟨pk,pv⟩:=p;by_cases e:pk=k
   ·have e':x.1=k:=hx.1.symm.trans (h.1.symm.trans e);have b:atKey (x::xs') k=a_ x.2:=by simp[atKey,l0,e']
    rw[b];unfold bQ;rw[if_pos e];exact⟨_,hx.2.2,h.2.2.2⟩
   ·have e':¬ x.1=k:=λz=>e (h.1.trans (hx.1.trans z));have b:atKey (x::xs') k=atKey xs' k:=by simp[atKey,l0,e']
    rw[b];unfold bQ;rw[if_neg e];exact ih tx
def kA{κ:Type}[DecidableEq κ](kvs:ue (κ×PV))(k:κ)(p:PV):ue (κ×PV):=if(bQ kvs k).isSome then kvs.map (λkv=>if kv.1=k then(kv.1,p) else kv) else kvs++[(k,p)]
theorem HD.replace{a:t7}{kvs:ue (PV×PV)}{xs:ue (PV×t7×s_)}(r:RKd C φ H kvs ks)(rx:pP ks xs)(k:PV)(rp:RV C φ H p v)(ru:RelV v u):
  ∃ks',RKd C φ H (kvs.map λkv=>if kv.1=k then(kv.1,p) else kv) ks'/\pP ks' (xs.map (putAt k u)):=by
 unfold RKd at r
 induction r generalizing xs with
 |nil=>cases rx;exact⟨[],.nil,.nil⟩
 | @cons pp q ps qs h t ih=>
  cases rx with
  | @cons q' x qs' xs' hx tx=>
   let⟨ks',r1,r2⟩:=ih tx;by_cases e:pp.1=k
   ·refine⟨(q.1,q.2.1,v)::ks',.cons ?_ r1,.cons ?_ r2⟩
    ·simp only[if_pos e];exact⟨h.1,h.2.1,h.2.2.1,rp⟩
    ·unfold putAt;rw[if_pos (hx.1.symm.trans (h.1.symm.trans e))];exact⟨hx.1,hx.2.1,ru⟩
   ·refine⟨q::ks',.cons ?_ r1,.cons ?_ r2⟩
    ·simp only[if_neg e];exact h
    ·unfold putAt;rw[if_neg λz=>e (h.1.trans (hx.1.trans z))];exact hx
theorem HD.put{a b:t7}{kvs:ue (PV×PV)}{ks:ue (PV×t7×V)}{xs:ue (PV×t7×s_)}(r:RKd C φ H kvs ks)(rx:pP ks xs){k:PV}(hk:k.ky 6=true)(rk:RV C φ H k (.ref b)){p:PV}{v:V}{u:s_}(rp:RV C φ H p v)(ru:RelV v u):
  ∃ks',RKd C φ H (kA kvs k p) ks'/\pP ks' (storedH xs k b u):=by
 have hv:=HD.val (a:=b) r rx k;unfold kA storedH;cases e1:bQ kvs k with
 |some p0=>
  rw[e1]at hv;cases e2:atKey xs k with
  |none=>rw[e2]at hv;exact hv.elim
  |some z=>exact HD.replace (a:=b) r rx k rp ru
 |none=>
  rw[e1]at hv;cases e2:atKey xs k with
  |some z=>rw[e2]at hv;exact hv.elim
  |none=>exact⟨ks++[(k,b,v)],Paired.snoc r ⟨rfl,hk,rk,rp⟩,Paired.snoc rx ⟨rfl,rfl,ru⟩⟩
theorem HD.isSome(r:RKd C φ H kvs ks)(rx:pP ks xs)(k:PV):(atKey xs k).isSome=(bQ kvs k).isSome:=by
 have hv:=HD.val (a:=0) r rx k;cases e1:bQ kvs k with
 |some p0=>
  rw[e1]at hv;cases e2:atKey xs k with
  |none=>rw[e2]at hv;exact hv.elim
  |some z=>rfl
 |none=>
  rw[e1]at hv;cases e2:atKey xs k with
  |some z=>rw[e2]at hv;exact hv.elim
  |none=>rfl
def yS(I:Inv X pins σ H s)(hK:X.K=C.K){p:PV}{b:t7}(hk:p.isKt=true)(r:RV C φ H p (.ref b)):(nR X.prog X.w).is s.heap p b:=⟨sD hk,M8 I hK 6 (sD hk) r rfl⟩
end
section
variable{C:MC}{k:Nat}{X:Cx}
theorem Cxt.room6(c:Cxt C k X):(nR X.prog X.w).room X.A.in1:=by
 have:=c.hu64
 show X.A.units+1+6<cLine
 omega
def kX(x y:PV)(h:PH):uf (uf PV):=match y with
 |.ref n=>if x.isKt=true then(bC h n).map λkvs=>bQ kvs x else b_
 |_=>b_
def Ir(C:MC):V->V->Hp->(ue t7->uf PV->Prop)->Prop:=λx y H R=>∃φ h p n a kvs,RH C φ H h/\RV C φ H p x/\y=.ref a/\φ[n]?=a_ a/\bC h n=a_ kvs/\p.isKt=true/\R φ (bQ kvs p)
def qI{R:ue t7->uf PV->Prop}(rh:RH C φ H h)(rx:RV C φ H p x)(ry:RV C φ H q y)(e:kX p q h=a_ o)(r:R φ o):Ir C x y H R:=by
 unfold kX at e;cases q with
 |ref n=>
  let⟨a,rfl,ha⟩:=ry;dsimp only at e;split at e
  ·rename_i hk;cases e1:bC h n with
   |none=>rw[e1]at e;cases e
   |some kvs=>rw[e1]at e;cases e;exact⟨φ,h,p,n,a,kvs,rh,rx,rfl,ha,e1,hk,r⟩
  ·cases e
 |_=>cases e
def Pz(c:Cxt C k X):OpR X (d6 .In) (λx y H Q=>Ir C x y H λ_ o=>Q (.bl o.isSome) H):=λpins s σ H x y v u Q I rx ry h=>by
 let⟨φ,h,p,n,a,kvs,rh,rp,rfl,ha,ht,hk,q⟩:=h;cases ry
 let⟨b,rfl⟩:=mM hk rp;cases rx
 let⟨⟨ks,xs,r,rx',hz,hm,dd⟩,_⟩:=sE I c.K c.w rh ha ht;refine wpAny_in_heap c.room6 (yS I c.K hk rp) hm dd ?_;rw[HD.isSome r rx' p];exact⟨.bl _,H,I.tok _,rfl,q⟩
def Ge(c:Cxt C k X):OpR X (d6 .NotIn) (λx y H Q=>Ir C x y H λ_ o=>Q (.bl (!o.isSome)) H):=λpins s σ H x y v u Q I rx ry h=>by
 let⟨φ,h,p,n,a,kvs,rh,rp,rfl,ha,ht,hk,q⟩:=h;cases ry
 let⟨b,rfl⟩:=mM hk rp;cases rx
 let⟨⟨ks,xs,r,rx',hz,hm,dd⟩,_⟩:=sE I c.K c.w rh ha ht;refine wpAny_notIn_heap c.room6 (yS I c.K hk rp) hm dd ?_;rw[HD.isSome r rx' p];exact⟨.bl _,H,I.tok _,rfl,q⟩
def Gf:PV->PV->PH->Rs PV:=λx y h=>match kX x y h with
 |some o=>.ok (.bl o.isSome) h
 |none=>vIn x y h
def fY:PV->PV->PH->Rs PV:=λx y h=>match kX x y h with
 |some o=>.ok (.bl (!o.isSome)) h
 |none=>yL x y h
def VX:OpS C k X (d6 .In) Gf:=λc=>((Xx c).or (Pz c)).imp λx y H Q h=>by
 let⟨φ,h,p,q,rh,rx,ry,po⟩:=h;unfold Gf at po;cases e:kX p q h with
 |none=>rw[e]at po;exact .inl ⟨φ,h,p,q,rh,rx,ry,po⟩
 |some o=>rw[e]at po;exact .inr (qI rh rx ry e (po.val rh rfl))
def M9:OpS C k X (d6 .NotIn) fY:=λc=>((Pk c).or (Ge c)).imp λx y H Q h=>by
 let⟨φ,h,p,q,rh,rx,ry,po⟩:=h;unfold fY at po;cases e:kX p q h with
 |none=>rw[e]at po;exact .inl ⟨φ,h,p,q,rh,rx,ry,po⟩
 |some o=>rw[e]at po;exact .inr (qI rh rx ry e (po.val rh rfl))
def XQ(c:Cxt C k X):IxR X (λx y H Q=>Ir C y x H λφ o=>∃p,o=a_ p/\∀v:V,RV C φ H p v->Q v H):=by
 intro value slice pins s σ H x y v u Q I rx ry h hs;let⟨φ,h,p,n,a,kvs,rh,rp,rfl,ha,ht,hk,p',ep,q⟩:=h;cases rx
 let⟨b,rfl⟩:=mM hk rp;cases ry
 let⟨⟨ks,xs,r,rx',hz,hm,dd⟩,_⟩:=sE I c.K c.w rh ha ht;have hT:=dd.typeIs;have hv:=HD.val (a:=a) r rx' p;rw[ep]at hv;cases e2:atKey xs p with
 |none=>rw[e2]at hv;exact hv.elim
 |some z=>
  rw[e2]at hv;let⟨v',rv1,rv2⟩:=hv;unfold subscriptTail;refine aa ?_;rw[getitemInPython_of_ne hT.not_modules];refine aa (km hT PySem.F.slot_dict_getitem.lookup ?_);have fin:wpAny (h_ X) X.A (subscripted slice false (.ref a) (.ref b)) (λr s₃=>wpAny (h_ X) X.A (letTemporaryGo value (.ref a) r >>= λ_=>pure r) (EP X pins σ Q) X.xe s₃) X.xe s:=by rw[hs];exact wpAny_operating (wpAny_getItem_heap c.room6 (yS I c.K hk rp) dd e2 (aa (wpAny_letTemporaryGo (af ⟨v',H,I.tok _,rv1,q v' rv2⟩))))
  first
   |exact af (aa fin)
   |exact aa (af (aa fin))
   |exact aa fin
def vAt:PV->PV->PH->Rs PV:=λx y h=>match kX y x h with
 |some (a_ p)=>.ok p h
 |some b_=>.bad
 |none=>vIx x y h
def bR(ha:SE C k X a ma)(hb:SE C k X b mb)(hs:HJ b:=by intro _ _;rfl):SE C k X (.Subscript a b pos) (aD vAt ma mb):=λc=>
 (Vb ((ixC c.hu C.K c.K).or (XQ c)) (ha c) (hb c) hs).imp λσ H Q h=>by
  let⟨φ,δ,h,rh,re,p⟩:=Ia h;refine⟨φ,δ,h,rh,re,p.imp ?_⟩;rintro v H1 ⟨φ,δ,h,rh,re,p⟩;refine⟨φ,δ,h,rh,re,p.imp ?_⟩;rintro u H2 ⟨φ,h,p,q,rh,rx,ry,po⟩;unfold vAt at po;cases e:kX q p h with
  |none=>rw[e]at po;exact .inl (VC ⟨φ,h,p,q,rh,rx,ry,po⟩)
  |some o=>
   rw[e]at po;cases o with
   |none=>exact po.elim
   |some r=>exact .inr (qI rh ry rx e ⟨r,rfl,λv' rv=>po.val rh rv⟩)
def Gg(x y v:PV)(h:PH):uf PH:=match x with
 |.ref n=>match G6 y,h[n]? with
  |some key,a_ (.dK kvs)=>if kvs.length<bp then a_ (h.set n (.dK (kA kvs key v))) else b_
  |some _,_=>b_
  |none,_=>if y.isKt=true then(match bC h n with
   |some kvs=>if kvs.length<bp then a_ (h.set n (.dD (kA kvs y v))) else b_
   |none=>b_) else b_
 |_=>b_
def Gh{φ:ue t7}{H:Hp}{κ:Type}[DecidableEq κ]{kvs:ue (κ×PV)}{ks:ue (κ×V)}(r:RKv C φ H kvs ks)(a:κ):(bQ kvs a).isSome=(nL ks a).isSome:=by
 have:=B7 r a;cases e1:bQ kvs a with
 |none=>
  cases e2:nL ks a with
  |none=>rfl
  |some v=>rw[e1,e2]at this;exact this.elim
 |some p=>
  cases e2:nL ks a with
  |none=>rw[e1,e2]at this;exact this.elim
  |some v=>rfl
def Eg{φ:ue t7}{H:Hp}{κ:Type}[DecidableEq κ]{kvs:ue (κ×PV)}{ks:ue (κ×V)}(r:RKv C φ H kvs ks)(a:κ){p:PV}{v:V}(rp:RV C φ H p v):RKv C φ H (kA kvs a p) (putK ks a v):=by
 unfold kA putK;rw[xW,Gh r a];split
 ·rename_i hx;clear hx;unfold RKv at r⊢
  induction r with
  |nil=>exact .nil
  | @cons p' q' ps qs h t ih=>
   refine .cons ?_ ih;by_cases e:p'.1=a
   ·have e':q'.1=a:=h.1.symm.trans e;simp only[if_pos e,if_pos e'];exact⟨h.1,rp⟩
   ·have e':¬ q'.1=a:=λz=>e (h.1.trans z);simp only[if_neg e,if_neg e'];exact h
 ·exact Paired.snoc r ⟨rfl,rp⟩
def Bb{φ:ue t7}{H:Hp}{h h':PH}{px py pv:PV}{x y v:V}(c:Cxt C k X)(rh:RH C φ H h)(rx:RV C φ H px x)(ry:RV C φ H py y)(rv:RV C φ H pv v)(e:Gg px py pv h=a_ h'){pins:g_ 0}{σ:St}{s:tw}{xu yu vu:s_}
  {Q:j_ Unit} (I:Inv X pins σ H s) (rxu:RelV x xu) (ryu:RelV y yu) (rvu:RelV v vu) (q:∀s' H',Inv X pins σ H' s'->Kp H H'->RH C φ H' h'->Q () s'):wpAny (h_ X) X.A (setItem xu yu vu) Q X.xe s:=by
 unfold Gg at e;cases px with
 |ref n=>
  let⟨a,rfl,ha⟩:=rx;cases rxu
  dsimp only at e;split at e
  ·rename_i key kvs hkey hk;split at e
   ·rename_i hl;cases e
    let⟨ks,hH,rk⟩:=rh.at' n a _ ha hk;have ey:y=kV key:=G7 ry hkey;subst ey;have hl':ks.length<bp:=by rw[<-ft rk];exact hl
    refine Jl c.hu I (.k hH hl') ryu rvu λs' I'=>q s' _ I' (Kp.dK hH) ?_;refine rh.write ha (by rw[hH];exact pe) ⟨_,bE,?_⟩;exact(Eg rk key rv).mono ba (Kp.dK hH)
   ·cases e
  ·cases e
  ·split at e
   ·rename_i hk;split at e
    ·rename_i kvs ht;split at e
     ·rename_i hl;cases e
      let⟨b,rfl⟩:=mM hk ry;cases ryu
      let⟨⟨ks,xs,r,rx',hz,hm,dd⟩,mu,nt⟩:=sE I c.K c.w rh ha ht;refine wpAny_setItem_heap (hsz:=hz) c.room6 (yS I c.K hk ry) dd λh' dd' hs=>?_;let⟨ks',r1,r2⟩:=HD.put (a:=a) r rx' (sD hk) ry rv rvu;let⟨o,es,ep,hq,h2,h3,h4,_,h5⟩:=dd';have hl2:ks'.length<=bp:=by
       have e1:=ft r1;have e2:(kA kvs py pv).length<=kvs.length+1:=by
        unfold kA;split
        ·rw[aq];omega
        ·simp
       omega
      refine q _ (upd H a (dDO C.w a ks')) (xC I mu hs ⟨o,hq⟩ ⟨⟨hl2,hm,_,r2,o,es,ep,hq,h2,h3,?_,h5⟩,⟨o,hq⟩,?_⟩) (Kp.upd nt) ?_
      ·rw[h4,<-c.w];rfl
      ·rintro g1 g2 ⟨z1,z2,ws,z3,o',es',ep',z4,z5⟩ keep;exact⟨z1,z2,ws,z3,o',es',ep',keep _ z4,z5⟩
      ·exact rh.write ha nt ⟨ks',bE,RKd.mono ba (Kp.upd nt) r1⟩
     ·cases e
    ·cases e
   ·cases e
 |_=>cases e
end
end L2
namespace L2
def MtG(C:MC)(k:Nat)(X:Cx)(T:String)(ty:PV->PH->Bool)(id:String)(g:PV->ue PV->PH->Rs PV):Prop:=Cxt C k X->MtR X id (rM C g)/\
 ∀pins s σ H φ h p x v,Inv X pins σ H s->RH C φ H h->RV C φ H p x->RelV x v->ty p h=true->s.TypeIs v T/\∀a,v=.ref a->∃ob,s.heap.get? a=a_ ob/\ob.dict=b_
section
variable{C:MC}{k:Nat}{X:Cx}
section
variable{o e:uc}{es:ue uc}{mo:Me}{ms:Ma}{name:Str}{apos cpos:Pos}{T id:String}{ty:PV->PH->Bool}{g:PV->ue PV->PH->Rs PV}
def VY(pa:PlainAttrs T)(slot:Slot T name id)(hty:typeOf (.builtin id)=pure (.type "method_descriptor"))(hm:MtG C k X T ty id g)(ho:SE C k X o mo)(ha:SA C k X (e::es) ms)
  (hbase:my o name X.env (eval o X.env)=eval o X.env:=by rfl)
  (hfew:((backTo cpos (da (e::es) X.env)).all (λx=>!x.1)&&(backToKw cpos (keywordEach [] X.env)).all (λx=>x.1.isSome)
   && decide ((e::es).length+([]:ue Keyword).length+(if([]:ue Keyword).isEmpty then 0 else 1)<30))=true:=by rfl)
  (hline:(apos.endLine == cpos.line)=true:=by rfl) (hs:da (e::es) X.env=(false,eval e X.env)::da es X.env:=by rfl) (hplain:(backTo cpos (da es X.env)).any (·.1)=false:=by rfl):
  SE C k X (.Call (.Attribute o name apos) (e::es) [] cpos) (mMt ty g mo ms):=λc pins s σ H Q I ⟨φ,δ,h,rh,re,p⟩=>by
 refine wpAny_Call_method_late hbase hfew hline rfl (thn (ho c pins s σ H _ I ⟨φ,δ,h,rh,re,post.bind p⟩) ?_);rintro v s1 ⟨x,H1,I1,r1,φ1,px,h1,p1,t1,rh1,rv1,q1⟩;let⟨ht,q1⟩:=q1.ite;let⟨g1,g2⟩:=(hm c).2 pins s1 σ H1 φ1 h1 px x v I1 rh1 rv1 r1 ht;refine⟨T,id,pa,slot,hty,g1,g2,?_⟩;have hA:=ha c cpos pins s1 σ H1 _ I1 ⟨φ1,δ,h1,rh1,re.mono p1 t1,postA.bind q1⟩;rw[hs]at hA⊢;refine Calls.callWith_builtin (show(false || (backTo cpos (da es X.env)).any (·.1))=false by rw[hplain];rfl) (Calls.evalArgs_plain (thn hA ?_));rintro us s2 ⟨vs,H2,I2,r2,φ2,ps,h2,p2,t2,rh2,rv2,q2⟩;exact(hm c).1 pins s2 σ H2 x vs v us Q I2 r1 r2 ⟨φ2,h2,px,ps,rh2,rv1.mono p2 t2,rv2,q2⟩
def VZ(pa:PlainAttrs T)(slot:Slot T name id)(hty:typeOf (.builtin id)=pure (.type "method_descriptor"))(hm:MtG C k X T ty id g)(ho:SE C k X o mo)
  (hbase:my o name X.env (eval o X.env)=eval o X.env:=by rfl) (hline:(apos.endLine == cpos.line)=true:=by rfl):SE C k X (.Call (.Attribute o name apos) [] [] cpos) (Pn ty g mo):=λc pins s σ H Q I ⟨φ,δ,h,rh,re,p⟩=>by
 refine wpAny_Call_method0_late hbase hline (thn (ho c pins s σ H _ I ⟨φ,δ,h,rh,re,post.bind p⟩) ?_);rintro v s1 ⟨x,H1,I1,r1,φ1,px,h1,p1,t1,rh1,rv1,q1⟩;let⟨ht,q1⟩:=q1.ite;let⟨g1,g2⟩:=(hm c).2 pins s1 σ H1 φ1 h1 px x v I1 rh1 rv1 r1 ht;exact⟨T,id,pa,slot,hty,g1,g2,Calls.callWith_builtin rfl (PySem.evalArgs_none ((hm c).1 pins s1 σ H1 x [] v [] Q I1 r1 .nil ⟨φ1,h1,px,[],rh1,rv1,trivial,q1⟩))⟩
end
def nD(x:PV)(h:PH):Bool:=match x with
 |.ref n=>match h[n]? with
  |some (.dK _)=>true
  |some (.dD _)=>true
  |_=>false
 |_=>false
def yT(c:Cxt C k X):∀pins s σ H φ h p x v,Inv X pins σ H s->RH C φ H h->RV C φ H p x->RelV x v->nD p h=true->s.TypeIs v "dict" /\ ∀a,v=.ref a->∃ob,s.heap.get? a=a_ ob/\ob.dict=b_:=by
 intro pins s σ H φ h p x v I rh rv r e;unfold nD at e;cases p with
 |ref n=>
  let⟨a,rfl,ha⟩:=rv;cases r
  dsimp only at e;split at e
  ·rename_i kvs hk;let⟨ks,hH,rk⟩:=rh.at' n a _ ha hk;let⟨z,hd,vs,rel,dd⟩:=HM I.hok hH;refine⟨dd.typeIs,λb eb=>?_⟩;cases eb
   let⟨ob,_,_,h1,h2,_⟩:=dd;exact⟨ob,h1,h2.2.1⟩
  ·rename_i kvs hk;have ht:bC h n=a_ kvs:=by unfold bC;rw[hk]
   let⟨⟨ks,xs,r,rx',hz,hm,dd⟩,_⟩:=sE I c.K c.w rh ha ht;refine⟨dd.typeIs,λb eb=>?_⟩;cases eb
   let⟨ob,_,_,h1,h2,_⟩:=dd;exact⟨ob,h1,h2.2.1⟩
  ·cases e
 |_=>cases e
def yU:ue PV->uf (ue (Key×PV))
 |[]=>a_ []
 |.tup [y,v]::r=>match G6 y,yU r with
  |some key,a_ rs=>a_ ((key,v)::rs)
  |_,_=>b_
 |_::_=>b_
def Mb(kvs more:ue (Key×PV)):ue (Key×PV):=more.foldl (λacc kv=>kA acc kv.1 kv.2) kvs
def Gi{φ:ue t7}{H:Hp}:∀{more:ue (Key×PV)}{ms:ue (Key×V)}{kvs:ue (Key×PV)}{ks:ue (Key×V)},RKv C φ H more ms->RKv C φ H kvs ks->RKv C φ H (Mb kvs more) (tU ks ms):=by
 intro more ms kvs ks r;unfold RKv at r
 induction r generalizing kvs ks with
 |nil=>intro q;exact q
 | @cons p q ps qs h t ih=>intro r0;have e:=Eg r0 p.1 h.2;rw[show putK ks p.1 q.2=putK ks q.1 q.2 by rw[h.1]]at e;exact ih e
theorem Inv.tupleD{pins:g_ 0}{σ:St}{H:Hp}{s:tw}{a:t7}{xs:ue V}(I:Inv X pins σ H s)(h:SqT X.K H a xs):∃its:ue s_,aR xs its/\tQ s.heap a its.toArray/\xs.length<=bp:=by
 rcases h with h|⟨o,its,n,hk,hc,hs,hz,r,hd⟩
 ·let⟨z,its,r,p⟩:=h.ok I.hok;exact⟨its,r,p,z⟩
 ·refine⟨its.toList,r,⟨o,I.kIn a o hk,hc,⟨n,l_ hs⟩,hd⟩,?_⟩;have e:=r.length;rw[e];simpa using hz
theorem Bc{pins:g_ 0}{σ:St}{H:Hp}{s:tw}{φ:ue t7}(I:Inv X pins σ H s)(hK:X.K=C.K):∀{ps:ue PV}{rs:ue (Key×PV)}{vs:ue V}{us:ue s_},yU ps=a_ rs->RVs C φ H ps vs->aR vs us->
  ∃qs:ue (t7×Key×s_×s_),us=qs.map (λq=>dh q.1)/\(∀q∈qs,(dC X.prog X.w).is q.2.1 q.2.2.1=true)/\(∀q∈qs,IsTup s.heap q.1 #[q.2.2.1,q.2.2.2])/\∃ws:ue (Key×V),RKv C φ H rs ws/\KV ws (qs.map λq=>(q.2.1,q.2.2.2))
 |[],rs,[],us,e,_,ru=>by
  cases ru
  cases e
  exact⟨[],rfl,(λ_ h=>nomatch h),(λ_ h=>nomatch h),[],.nil,.nil⟩
 |p::ps,rs,v::vs,us,e,r,ru=>by
  cases ru with
  | @cons _ u _ us' h t=>
   cases p with
   |tup xs=>
    match xs,e with
    |[y,z],e=>
     unfold yU at e;cases e1:G6 y with
     |none=>rw[e1]at e;cases e
     |some key=>
      cases e2:yU ps with
      |none=>rw[e1,e2]at e;cases e
      |some rs'=>
       rw[e1,e2]at e;cases e
       let⟨qs,rfl,a1,a2,ws,a3,a4⟩:=Bc I hK e2 r.2 t;let⟨b,bs,rfl,sq,rb⟩:=r.1;cases h
       let⟨yv,zv,rfl,ry,rz⟩:=rb.two;rw[<-hK]at sq;let⟨its,rits,pt,_⟩:=I.tuple sq;let⟨yu,zu,rfl,ryu,rzu⟩:=vals2 rits;have ey:=G7 ry e1;subst ey;refine⟨(b,key,yu,zu)::qs,rfl,?_,?_,(key,zv)::ws,.cons ⟨rfl,rz⟩ a3,.cons ⟨rfl,rzu⟩ a4⟩
       ·intro q hq;rcases bx.mp hq with rfl|hq
        ·exact AU ryu
        ·exact a1 q hq
       ·intro q hq;rcases bx.mp hq with rfl|hq
        ·exact pt
        ·exact a2 q hq
    |[],e=>cases e
    |[_],e=>cases e
    |_::_::_::_,e=>cases e
   |_=>cases e
 |[],_,_::_,_,_,r,_=>r.elim
 |_::_,_,[],_,_,r,_=>r.elim
def Iu:ue PV->PH->Rs PV:=λxs h=>match xs with
 |[.tup ps]=>match yU ps with
  |some rs=>.ok (.ref h.length) (h++[.dK (Mb [] rs)])
  |none=>.bad
 |[.ref n]=>match h[n]? with
  |some (.dK kvs)=>.ok (.ref h.length) (h++[.dK kvs])
  |_=>.bad
 |_=>.bad
def Mc:vQ C k X (.type "dict") Iu:=λc pins s σ H xs us Q I r h=>by
 let⟨φ,h,ps,rh,rv,po⟩:=h;unfold Iu at po;split at po
 ·rename_i ps;split at po
  ·rename_i rs e;let⟨v,rfl,rx⟩:=rv.one;let⟨a,vs,rfl,sa,ra⟩:=rx;let⟨u,rfl,ru⟩:=vals1 r;cases ru
   have hl:=ra.length;have sa':=sa;rw[<-c.K]at sa';let⟨its,rits,⟨o,o1,o2,⟨n,o3⟩,o4⟩,hz⟩:=Inv.tupleD I sa';let⟨qs,rfl,a1,a2,ws,a3,a4⟩:=Bc I c.K e ra rits;have hq:qs.length<=bp:=by have:=rits.length;rw[aq]at this;omega
   refine wR (I.ok.hd c.calm) o1 o2 o3 o4 a1 a2 hq λh' tk dd kk=>?_;have r1:=Gi a3 (.nil:RKv C φ H [] []);have hz2:(tU [] ws).length<=bp:=by have h1:=pR ws [];have h2:=KV.length a4;rw[aq]at h2;simp at h1;omega
   have fr:H (e_ s)=b_:=I.fresh;refine⟨.ref (e_ s),_,I.laid (a:=(e_ s)) (o:=.dK (tU [] ws)) (t':=tk) kk (bq _) (FN hz2 (beq_eq_false_iff_ne.mpr (iz (bu I.big))) (a4.merge .nil) dd),rfl,?_⟩;exact po (φ++[(e_ s)]) (.ref _) _ (fe _ _) (Kp.new fr) (rh.new fr ⟨_,bE,r1.mono (fe _ _) (Kp.new fr)⟩) ⟨_,rfl,by rw[<-rh.len];simp⟩
  ·exact po.elim
 ·rename_i n;split at po
  ·rename_i kvs hk;let⟨v,rfl,rx⟩:=rv.one;let⟨a,rfl,ha⟩:=rx;let⟨u,rfl,ru⟩:=vals1 r;cases ru
   let⟨ks,hH,rk⟩:=rh.at' n a _ ha hk;refine Lg I (.inl hH) λp s' hp I'=>⟨.ref p,_,I',rfl,?_⟩;exact po (φ++[p]) (.ref _) _ (fe _ _) (Kp.new hp) (rh.new hp ⟨_,bE,rk.mono (fe _ _) (Kp.new hp)⟩) ⟨_,rfl,by rw[<-rh.len];simp⟩
  ·exact po.elim
 ·exact po.elim
end
def JP(x:ue Key):ue (ue Key)->ue (ue Key)
 |[]=>[x]
 |y::ys=>if iO y x=true then y::JP x ys else x::y::ys
def uH:ue (ue Key)->ue (ue Key)
 |[]=>[]
 |x::xs=>JP x (uH xs)
theorem uI(x:ue Key):∀ys,(JP x ys).Perm (x::ys)
 |[]=>.refl _
 |y::ys=>by
  unfold JP;split
  ·exact((uI x ys).cons y).trans (.swap x y ys)
  ·exact .refl _
theorem hV:∀xs,(uH xs).Perm xs
 |[]=>.refl _
 |x::xs=>(uI x _).trans ((hV xs).cons x)
theorem vT{S:ue Bool}{x:ue Key}(hx:shape x=S):∀{ys:ue (ue Key)},(∀y∈ys,shape y=S)->ys.Pairwise (λa b=>iO b a=false)->(JP x ys).Pairwise (λa b=>iO b a=false)
 |[],_,_=>i8 _ _
 |y::ys,hs,hp=>by
  have hy:=hs y aw;have hs':=λz hz=>hs z (aj _ hz);rw[f9]at hp;unfold JP;split
  ·rename_i h;rw[f9];refine⟨λz hz=>?_,vT hx hs' hp.2⟩;rcases bx.mp ((uI x ys).mem_iff.mp hz) with rfl|hz
   ·exact I0 h
   ·exact hp.1 z hz
  ·rename_i h;have h':iO y x=false:=by simpa using h
   rw[f9];refine⟨λz hz=>?_,f9.mpr hp⟩;rcases bx.mp hz with rfl|hz
   ·exact h'
   ·exact C5 (hx.trans hy.symm) (hy.trans (hs' z hz).symm) h' (hp.1 z hz)
theorem pT:∀{xs:ue (ue Key)},(∀y∈xs,shape y=S)->(uH xs).Pairwise (λa b=>iO b a=false)
 |[],_=>.nil
 |x::xs,hs=>vT (hs x aw) (λy hy=>hs y (aj _ ((hV xs).mem_iff.mp hy))) (pT λy hy=>hs y (aj _ hy))
def Gj{S:ue Bool}{xs ys:ue (ue Key)}(hs:∀y∈xs,shape y=S)(hp:ys.Perm xs)(h:ys.Pairwise (λa b=>iO b a=false)):ys=uH xs:=by refine sh (le:=λa b=>iO b a=false) (λa b ha hb h1 h2=>?_) h (pT hs) (hp.trans (hV xs).symm);exact E2 ((hs a (hp.mem_iff.mp ha)).trans (hs b ((hV xs).mem_iff.mp hb)).symm) h2 h1
def kP:Key->PV
 |.inl i=>.int i
 |.inr x=>.str x
def RR:ue PV->uf (ue Key)
 |[]=>a_ []
 |x::xs=>match G6 x,RR xs with
  |some a,a_ r=>a_ (a::r)
  |_,_=>b_
def RS:ue PV->uf (ue (ue Key))
 |[]=>a_ []
 |.tup xs::r=>match RR xs,RS r with
  |some a,a_ b=>a_ (a::b)
  |_,_=>b_
 |_::_=>b_
def XR(kss:ue (ue Key)):Bool:=match kss with
 |[]=>true
 |a::r=>(!a.isEmpty)&&r.all λx=>shape x == shape a
section
variable{C:MC}{k:Nat}{X:Cx}
theorem RH.same(r:RH C φ H h)(s:Aa H H1):RH C φ H1 h:=⟨r.len,r.nd,λn b ob h1 h2=>by have q:=r.at' n b ob h1 h2;let⟨u,hu⟩:=q.some;exact q.stay ba (Kp.same s) ((s _ _ hu).trans hu.symm)⟩
def PB{a b:Str}:iO [.inr a] [.inr b]=decide (a.cps.toList<b.cps.toList):=by
 unfold iO;split
 ·rename_i e;cases e
  simp[iO,List.lt_irrefl]
 ·rfl
theorem vU:∀{r:ue Str}{p:Str},risingS p r=true->((p::r).map λx=>[(tm x:Key)]).Pairwise (λa b=>iO b a=false)
 |[],p,_=>i8 _ _
 |x::r,p,h=>by
  have h0:iO [.inr x] [.inr p]=false/\risingS x r=true:=by unfold risingS at h;rw[cg,ltCps_eq]at h;rw[PB];exact⟨l_ h.1,h.2⟩
  have ih:=vU h0.2;rw[dn,f9];refine⟨λz hz=>?_,ih⟩;let⟨y,hy,rfl⟩:=bz.mp hz;rcases bx.mp hy with rfl|hy
  ·exact h0.1
  ·rw[dn,f9]at ih;exact C5 (a:=[.inr p]) (b:=[.inr x]) (c:=[.inr y]) rfl rfl h0.1 (ih.1 _ (bz.mpr ⟨y,hy,rfl⟩))
theorem Cf:∀{ss:ue Str}{vs:ue V},RVs C φ H (ss.map PV.str) vs↔vs=ss.map V.str
 |[],[]=>by simp[RVs]
 |[],_::_=>by simp[RVs]
 |_::_,[]=>by simp[RVs]
 |x::ss,v::vs=>by simp only[dn,RVs,iu];exact and_congr Iff.rfl Cf
end
end L2
namespace L2
open PySem
section
variable{h:PH}
@[simp]theorem W5:kX x (.tup xs) h=b_:=(rfl)
@[simp]theorem X1:kX x (.fl xs) h=b_:=(rfl)
@[simp]theorem UO:kX x (.str z) h=b_:=(rfl)
@[simp]theorem W6:kX (.int i) y h=b_:=by cases y <;> rfl
def Md(e:h[n]?=a_ (.lst xs)):kX x (.ref n) h=b_:=by unfold kX bC;simp[e]
@[simp]theorem X2:vAt (.str z) y h=vIx (.str z) y h:=by unfold vAt;simp
@[simp]theorem X3:vAt x (.int i) h=vIx x (.int i) h:=by unfold vAt;simp
def Eh(e:h[n]?=a_ (.lst xs)):fY x (.ref n) h=yL x (.ref n) h:=by unfold fY;rw[Md e]
end
end L2
namespace L2
section
variable{C:MC}{k:Nat}{X:Cx}
def vV{κ:Type}[DecidableEq κ](kvs:ue (κ×PV))(a:κ):ue (κ×PV):=kvs.filter λkv=>decide (kv.1≠a)
end
section
variable{C:MC}{k:Nat}{X:Cx}
def PC(h:PH)(d:Nat):uf (ue PV):=match h[d]? with
 |some (.dK kvs)=>a_ (kvs.map (·.2))
 |some (.dD kvs)=>a_ (kvs.map (·.2))
 |_=>b_
def Gk{prog:ub}{w:ua}{K:Type}[DecidableEq K]{knd:KeyKind prog w K}{es:ue n9}{kvs:ue (K×s_)}(h:Pairs knd es kvs):es.map (·.val)=kvs.map (·.2):=by
 apply k7;intro i;rw[ar,ar];have hl:=h.length;by_cases hi:i<es.length
 ·have e1:es[i]?=a_ es[i]:=by simp[hi]
  have hi':i<kvs.length:=⋯;have e2:kvs[i]?=a_ (kvs[i].1,kvs[i].2):=by simp[hi']
  rw[e1,e2];exact congrArg a_ (h.get? e1 e2).2
 ·rw[jm ⋯,jm ⋯];rfl
def Mf(h:PH)(n:Nat):uf (ue PV):=match h[n]? with
 |some (.vw 1 d)=>PC h d
 |_=>b_
end
section
variable{h:PH}
def Iv(e:h[n]?=a_ (.dD kvs)):bC h n=a_ kvs:=by simp[bC,e]
end
end L2
namespace L2
open PySem.SeqAt PySem.W
def yV(l:ue Nat):ue Int:=l.map (λ(c:Nat)=>(c:Int)+2)++[1]
mutual
def enc:PV->ue Int
 |.int i=>[i]
 |.str x=>yV x.cps.toList
 |.tup xs=>sF xs
 |_=>[]
def sF:ue PV->ue Int
 |[]=>[0]
 |x::xs=>1::(enc x++sF xs)
end
def oY(a:Nat)(l:ue Nat):yV (a::l)=((a:Int)+2)::yV l:=rfl
theorem Iw:∀(a b:ue Nat)(s t:ue Int),a≠b->((yV a++s<yV b++t)↔a<b)
 |[],[],_,_,h=>(h rfl).elim
 |[],b::bs,s,t,_=>by
  rw[oY]
  show(1::s<((b:Int)+2)::(yV bs++t))↔_
  rw[gm];constructor
  ·intro _;exact List.nil_lt_cons _ _
  ·intro _;left;omega
 |a::as,[],s,t,_=>by
  rw[oY]
  show(((a:Int)+2)::(yV as++s)<1::t)↔_
  rw[gm];constructor
  ·rintro(h|⟨h,_⟩) <;> omega
  ·intro h;exact(List.not_lt_nil _ h).elim
 |a::as,b::bs,s,t,h=>by
  rw[oY,oY]
  show(((a:Int)+2)::(yV as++s)<((b:Int)+2)::(yV bs++t))↔_
  rw[gm,gm];by_cases e:a=b
  ·subst e;have h':as≠bs:=λz=>h (by rw[z]);have ih:=Iw as bs s t h';constructor
   ·rintro(h1|⟨_,h1⟩)
    ·omega
    ·exact .inr ⟨rfl,ih.mp h1⟩
   ·rintro(h1|⟨_,h1⟩)
    ·omega
    ·exact .inr ⟨rfl,ih.mpr h1⟩
  ·constructor
   ·rintro(h1|⟨h1,_⟩) <;> (left;omega)
   ·rintro(h1|⟨h1,_⟩)
    ·left;omega
    ·exact(e h1).elim
def Gm:∀(n:Nat)(x y:PV)(c:Bool)(s t:ue Int),x≠y->ltP n x y=a_ c->((enc x++s<enc y++t)↔c=true):=by
 intro n;have one:∀(a b:Int)(c:Bool)(s t:ue Int),PV.int a≠.int b->a_ (decide (a<b))=a_ c->(([a]++s < [b]++t)↔c=true):=λa b c s t h e=>by
  cases e
  have h':a≠b:=λz=>h (by rw[z])
  show(a::s<b::t)↔_
  rw[gm,decide_eq_true_eq];constructor
  ·rintro(h1|⟨h1,_⟩)
   ·exact h1
   ·exact(h' h1).elim
  ·intro h1;exact .inl h1
 have two:∀(a b:Str)(c:Bool)(s t:ue Int),PV.str a≠.str b->a_ (decide (a.cps.toList<b.cps.toList))=a_ c->((yV a.cps.toList++s<yV b.cps.toList++t)↔c=true):=λa b c s t h e=>by
  cases e
  rw[Iw _ _ s t (λz=>h (by rw[HZ z])),decide_eq_true_eq]
 induction n with
 |zero=>intro x y c s t h e;cases x <;> cases y <;> first|exact one _ _ c s t h e|exact two _ _ c s t h e|(simp[ltP]at e)
 |succ n ih=>
  have lists:∀(xs ys:ue PV)(c:Bool)(s t:ue Int),xs≠ys->ltL (ltP n) xs ys=a_ c->((sF xs++s<sF ys++t)↔c=true):=by
   intro xs
   induction xs with
   |nil=>
    intro ys c s t h e;cases ys with
    |nil=>exact(h rfl).elim
    |cons y ys=>
     cases e
     show(0::s<1::((enc y++sF ys)++t))↔_
     rw[gm];constructor
     ·intro _;rfl
     ·intro _;left;omega
   |cons x xs ihx=>
    intro ys c s t h e;cases ys with
    |nil=>
     cases e
     show(1::((enc x++sF xs)++s)<0::t)↔_
     rw[gm];constructor
     ·rintro(h1|⟨h1,_⟩) <;> omega
     ·intro h1;cases h1
    |cons y ys=>
     show(1::((enc x++sF xs)++s)<1::((enc y++sF ys)++t))↔_
     have e':(if x=y then ltL (ltP n) xs ys else ltP n x y)=a_ c:=e;rw[gm,ak,ak];have key:(enc x++(sF xs++s)<enc y++(sF ys++t))↔c=true:=by
      by_cases xy:x=y
      ·rw[if_pos xy]at e';subst xy;have:=ihx ys c s t (λz=>h (by rw[z])) e';rw[<-this];have cut:∀l:ue Int,(l++(sF xs++s)<l++(sF ys++t))↔(sF xs++s<sF ys++t):=λl=>by
        induction l with
        |nil=>exact Iff.rfl
        |cons a l ih=>
         show(a::(l++_)<a::(l++_))↔_
         rw[gm,ih];constructor
         ·rintro(h1|⟨_,h1⟩)
          ·omega
          ·exact h1
         ·intro h1;exact .inr ⟨rfl,h1⟩
       exact cut _
      ·rw[if_neg xy]at e';exact ih x y c _ _ xy e'
     rw[key];constructor
     ·rintro(h1|⟨_,h1⟩)
      ·omega
      ·exact h1
     ·intro h1;exact .inr ⟨rfl,h1⟩
  intro x y c s t h e;cases x <;> cases y <;> first|exact one _ _ c s t h e|exact two _ _ c s t h e|(simp[ltP]at e;done)|exact lists _ _ c s t (λz=>h (by rw[z])) e
def ltN(x y:PV):Bool:=decide (enc x<enc y)
theorem Ei{f:PV->PV->uf Bool}:∀xs:ue PV,ltL f xs xs=a_ false
 |[]=>rfl
 |x::xs=>by
  show(if x=x then ltL f xs xs else f x x)=a_ false
  rw[if_pos rfl];exact Ei xs
def Mh(h:ltP n x x=a_ c):c=false:=by
 have st:∀{z:Str}{c:Bool},a_ (decide (z.cps.toList<z.cps.toList))=a_ c->c=false:=λ{z c} e=>by
  cases e
  exact decide_eq_false (List.lt_irrefl _)
 have it:∀{z:Int}{c:Bool},a_ (decide (z<z))=a_ c->c=false:=λ{z c} e=>by
  cases e
  exact decide_eq_false (Int.lt_irrefl _)
 cases n with
 |zero=>
  cases x with
  |int i=>exact it h
  |str i=>exact st h
  |_=>simp[ltP]at h
 |succ n=>
  cases x with
  |tup xs=>
   have h':ltL (ltP n) xs xs=a_ c:=h;rw[Ei]at h';cases h'
   rfl
  |int i=>exact it h
  |str i=>exact st h
  |_=>simp[ltP]at h
def PD(x:PV):ltN x x=false:=decide_eq_false (List.lt_irrefl _)
def Gn(h:ltP n x y=a_ c):ltN x y=c:=by
 by_cases e:x=y
 ·subst e;rw[Mh h];exact PD x
 ·have:=Gm n x y c [] [] e h;rw[dz,dz]at this;unfold ltN;cases c with
  |true=>exact decide_eq_true (this.mpr rfl)
  |false=>exact decide_eq_false λz=>by cases this.mp z
def PF(h:ltP n x y=a_ c)(e:enc x=enc y):x=y:=by
 by_cases xy:x=y
 ·exact xy
 ·have h1:=Gm n x y c [0] [1] xy h;have h2:=Gm n x y c [1] [0] xy h;rw[e]at h1 h2;have cut:∀(l s t:ue Int),(l++s<l++t)↔(s<t):=λl s t=>by
   induction l with
   |nil=>exact Iff.rfl
   |cons a l ih=>
    show(a::(l++_)<a::(l++_))↔_
    rw[gm,ih];constructor
    ·rintro(h1|⟨_,h1⟩)
     ·omega
     ·exact h1
    ·intro h1;exact .inr ⟨rfl,h1⟩
  rw[cut]at h1 h2;have t1:([0]:ue Int) < [1]:=by decide
  have t2:¬ ([1]:ue Int) < [0]:=by decide
  exact(t2 (h2.mpr (h1.mp t1))).elim
def Cg(h1:ltN b a=false)(h2:ltN c b=false):ltN c a=false:=decide_eq_false (oz.mpr (List.le_trans (oz.mp (of_decide_eq_false h1)) (oz.mp (of_decide_eq_false h2))))
def Ci(h:ltN a b=true):ltN b a=false:=decide_eq_false (List.lt_asymm (of_decide_eq_true h))
def TC(h1:ltN a b=false)(h2:ltN b a=false):enc a=enc b:=List.le_antisymm (oz.mp (of_decide_eq_false h2)) (oz.mp (of_decide_eq_false h1))
section
variable{α:Type}(key:α->PV)
def yW(x:α):ue α->ue α
 |[]=>[x]
 |y::ys=>if ltN (key y) (key x) then y::yW x ys else x::y::ys
def cW:ue α->ue α
 |[]=>[]
 |x::xs=>yW key x (cW xs)
theorem uJ(x:α):∀ys,(yW key x ys).Perm (x::ys)
 |[]=>.refl _
 |y::ys=>by
  unfold yW;split
  ·exact((uJ x ys).cons y).trans (.swap x y ys)
  ·exact .refl _
theorem gL:∀xs,(cW key xs).Perm xs
 |[]=>.refl _
 |x::xs=>(uJ key x _).trans ((gL xs).cons x)
theorem vW(x:α):∀{ys:ue α},ys.Pairwise (λa b=>ltN (key b) (key a)=false)->(yW key x ys).Pairwise (λa b=>ltN (key b) (key a)=false)
 |[],_=>i8 _ _
 |y::ys,h=>by
  unfold yW;rw[f9]at h;split
  ·rename_i hlt;rw[f9];refine⟨λz hz=>?_,vW x h.2⟩;rcases bx.mp ((uJ key x ys).mem_iff.mp hz) with rfl|hz
   ·exact Ci hlt
   ·exact h.1 z hz
  ·rename_i hlt;have hlt':ltN (key y) (key x)=false:=by simpa using hlt
   rw[f9];refine⟨λz hz=>?_,f9.mpr h⟩;rcases bx.mp hz with rfl|hz
   ·exact hlt'
   ·exact Cg hlt' (h.1 z hz)
theorem iP:∀xs:ue α,(cW key xs).Pairwise (λa b=>ltN (key b) (key a)=false)
 |[]=>.nil
 |x::xs=>vW key x (iP xs)
def oZ{ys:ue α}(inj:∀a∈xs,∀b∈xs,enc (key a)=enc (key b)->a=b)(hp:ys.Perm xs)(h:ys.Pairwise (λa b=>ltN (key b) (key a)=false)):ys=cW key xs:=by refine sh (le:=λa b=>ltN (key b) (key a)=false) (λa b ha hb h1 h2=>?_) h (iP key xs) (hp.trans (gL key xs).symm);exact inj a (hp.mem_iff.mp ha) b ((gL key xs).mem_iff.mp hb) (TC h2 h1)
end
theorem Gp:∀{xs:ue PV}{ds:ue D},PV.ds xs=a_ ds->xs.length=ds.length
 |[],ds,h=>by cases h;rfl
 |x::xs,ds,h=>by let⟨d,r,_,h2,rfl⟩:=dB h;simp[Gp h2]
theorem Mj:∀{xs:ue PV}{ds:ue D}{j:Nat}{d:D},PV.ds xs=a_ ds->ds[j]?=a_ d->∃x,xs[j]?=a_ x/\x.d=a_ d
 |[],ds,j,d,h,e=>by cases h;simp at e
 |x::xs,ds,j,d,h,e=>by
  let⟨d',r,h1,h2,rfl⟩:=dB h;cases j with
  |zero=>
   have:d'=d:=by simpa using e
   exact⟨x,rfl,by rw[h1,this]⟩
  |succ j=>
   let⟨y,a,b⟩:=Mj (j:=j) h2 (l_ e);exact⟨y,l_ a,b⟩
def oA:∀(n:Nat)(p:PV),p.ky n=true->p.pl n=true:=by
 intro n
 induction n with
 |zero=>intro p h;cases p <;> first|rfl|cases h
 |succ n ih=>
  intro p h;cases p with
  |tup xs=>
   show xs.all (PV.pl n)=true
   rw[ay];exact λy hy=>ih y (ay.mp (show xs.all (PV.ky n)=true from h) y hy)
  |_=>first|rfl|cases h
def TF:∀(n:Nat){A:t9}{s:tw}{p q:PV}{v u:s_}{b:Bool},p.ky n=true->q.ky n=true->A.units+n<cLine->HR s.heap p v->HR s.heap q u->ltP n p q=a_ b->LY A s v u b:=by
 intro n;have one:∀{A:t9}{s:tw}{i j:Int}{v u:s_}{b:Bool},HR s.heap (.int i) v->HR s.heap (.int j) u->a_ (decide (i<j))=a_ b->LY A s v u b:=λ{A s i j v u b} r r' e=>by
  let⟨t,rfl⟩:=r;let⟨t',rfl⟩:=r';cases e
  exact λprog w E Q q=>(PyProof.Rows.lt_int q:m_ prog w A (d6 .Lt _ _) Q E s)
 have two:∀{A:t9}{s:tw}{i j:Str}{v u:s_}{b:Bool},HR s.heap (.str i) v->HR s.heap (.str j) u->a_ (decide (i.cps.toList<j.cps.toList))=a_ b->LY A s v u b:=λ{A s i j v u b} r r' e=>by
  let⟨t,rfl⟩:=r;let⟨t',rfl⟩:=r';cases e
  exact λprog w E Q q=>(PyProof.Rows.lt_str q:m_ prog w A (d6 .Lt _ _) Q E s)
 induction n with
 |zero=>
  intro A s p q v u b hp hq hu r r' e;cases p with
  |int i=>
   cases q with
   |int j=>exact one r r' e
   |_=>simp[ltP]at e
  |str i=>
   cases q with
   |str j=>exact two r r' e
   |_=>simp[ltP]at e
  |_=>cases hp
 |succ n ih=>
  intro A s p q v u b hp hq hu r r' e;cases p with
  |int i=>
   cases q with
   |int j=>exact one r r' e
   |_=>simp[ltP]at e
  |str i=>
   cases q with
   |str j=>exact two r r' e
   |_=>simp[ltP]at e
  |tup ps=>
   cases q with
   |tup qs=>
    let⟨a,its,rfl,p1,rs⟩:=r;let⟨a',its',rfl,p2,rs'⟩:=r';have kp:∀z∈ps,z.ky n=true:=ay.mp hp;have kq:∀z∈qs,z.ky n=true:=ay.mp hq;let⟨d,hd,_⟩:=jD (n+1) _ (oA _ _ hp);let⟨d',hd',_⟩:=jD (n+1) _ (oA _ _ hq);have hlt:=M0 (n+1) _ _ d d' (oA _ _ hp) (oA _ _ hq) hd hd';rw[e]at hlt;let⟨ds,g1,rfl⟩:=bU hd;let⟨es,g2,rfl⟩:=bU hd';have hb':qG ds es=a_ b:=by simpa[ltD] using hlt
    let⟨⟨cls,dd,data,sl⟩,ho,hc,m,hdt⟩:=id p1;let⟨⟨cls2,dd2,data2,sl2⟩,ho2,hc2,m2,hd2⟩:=id p2;simp only at hc hdt hc2 hd2;subst hc hdt hc2 hd2;intro prog w E Q hq';refine richCompare_meets_room (op:=.Lt) ⟨_,ho,rfl⟩ ⟨_,ho2,rfl⟩ PySem.F.slot_tuple_lt PySem.F.entry_tuple_lt (PySem.F.args_tuple_lt_2 _ _) (rZ a a' its.toArray its'.toArray m m2 dd dd2 sl sl2 ds es b hb')
     ⟨ho,ho2,⟨?_,?_,?_⟩,show Value.bool b≠Value.notImplemented/\Q (.bool b) s from⟨(λx=>nomatch x),hq'⟩⟩ ⋯
    ·have l1:=rs.length;have l2:=Gp g1
     show its.length=ds.length
     omega
    ·have l1:=rs'.length;have l2:=Gp g2
     show its'.length=es.length
     omega
    ·intro j v u d e h1 h2 h3 h4;let⟨x,hx,ex⟩:=Mj g1 h3;let⟨y,hy,ey⟩:=Mj g2 h4;let⟨v',hv,rv⟩:=rs.at hx;let⟨u',hu',ru⟩:=rs'.at hy;have e1:v=v':=by have:its[j]?=a_ v:=h1;rw[hv]at this;exact(cy this).symm
     have e2:u=u':=by have:its'[j]?=a_ u:=h2;rw[hu']at this;exact(cy this).symm
     subst e1 e2;have kx:=kp x (cq hx);have ky:=kq y (cq hy);have hun:A.in1.units+n<cLine:=by show A.units+1+n<cLine;omega
     refine⟨?_,λ_ b hb=>?_⟩
     ·rw[Ef n x y d e (oA _ _ kx) (oA _ _ ky) ex ey];exact G4 kx ky hun rv ru
     ·rw[M0 n x y d e (oA _ _ kx) (oA _ _ ky) ex ey]at hb;exact ih kx ky hun rv ru hb
   |_=>simp[ltP]at e
  |_=>cases hp
section
variable{prog:ub}{w:ua}{A:t9}{E:f_ 0}{s:tw}
def Ml:ue PV->Prop
 |.tup _::_=>False
 |_=>True
theorem Bd{Q:j_ Bool}(hu:A.units+n<cLine):∀(ps qs:ue PV)(us ws:ue s_)(i:Nat)(c:Bool),(∀p∈ps,p.ky n=true)->(∀q∈qs,q.ky n=true)->HRs s.heap ps us->HRs s.heap qs ws->ltL (ltP n) ps qs=a_ c->((b&&i == 0)=true->Ml ps)->fin=decide (ps.length<qs.length)->Q c s->KatLex prog w A b fin Q (us.zip ws) i s
 |[],[],[],[],i,c,_,_,_,_,hc,_,hf,h=>by
  cases hc
  rw[hf];exact h
 |[],q::qs,[],u::ws,i,c,_,_,_,_,hc,_,hf,h=>by
  cases hc
  rw[hf];exact h
 |p::ps,[],u::us,[],i,c,_,_,_,_,hc,_,hf,h=>by
  cases hc
  rw[hf];exact h
 |p::ps,q::qs,u::us,v::ws,i,c,kp,kq,rs,rs',hc,hn,hf,h=>by
  rw[List.zip_cons_cons];have hc':(if p=q then ltL (ltP n) ps qs else ltP n p q)=a_ c:=hc;have k1:=kp p aw;have k2:=kq q aw;refine kat_cons (G4 k1 k2 hu rs.1 rs'.1 prog w _ _ ?_);by_cases pq:p=q
  ·rw[if_pos pq]at hc';rw[decide_eq_true pq];refine kat_yes (Bd hu ps qs us ws (i+1) c (λz hz=>kp z (aj _ hz)) (λz hz=>kq z (aj _ hz)) rs.2 rs'.2 hc' (λz=>?_) ?_ h)
   ·cases b <;> simp at z
   ·rw[hf];simp
  ·rw[if_neg pq]at hc';rw[decide_eq_false pq];refine kat_no ?_;have gen:m_ prog w A (oneLt' false u v) Q (λ_ _=>False) s:=kat_one _ _ (TF n k1 k2 hu rs.1 rs'.1 hc' prog w _ (PySem.W.BoolBack Q) h);cases hb:(b&&i == 0) with
   |false=>exact gen
   |true=>
    have hn':=hn hb;cases p with
    |tup _=>exact hn'.elim
    |int a=>
     cases q with
     |int d=>
      let⟨t,rfl⟩:=rs.1;let⟨t',rfl⟩:=rs'.1;have e:decide (a<d)=c:=by cases n <;> exact cy hc'
      rw[<-e]at h;exact oneLt_int h
     |_=>cases n <;> simp[ltP]at hc'
    |str a=>
     cases q with
     |str d=>
      let⟨t,rfl⟩:=rs.1;let⟨t',rfl⟩:=rs'.1;have e:decide (a.cps.toList<d.cps.toList)=c:=by cases n <;> exact cy hc'
      rw[<-e]at h;exact oneLt_str h
     |_=>cases n <;> simp[ltP]at hc'
    |_=>exact rs.1.elim
 |[],_,_::_,_,_,_,_,_,r,_,_,_,_,_=>r.elim
 |_::_,_,[],_,_,_,_,_,r,_,_,_,_,_=>r.elim
 |_,[],_,_::_,_,_,_,_,_,r,_,_,_,_=>r.elim
 |_,_::_,_,[],_,_,_,_,_,r,_,_,_,_=>r.elim
def Ej{p q:PV}{Q:j_ Bool}(hu:A.units+n<cLine)(kp:p.ky (n+1)=true)(kq:q.ky (n+1)=true)(tp:∃ps,p=.tup ps/\(b=true->Ml ps))(tq:∃qs,q=.tup qs)(r:HR s.heap p v)(r':HR s.heap q u)(hc:ltP (n+1) p q=a_ c)(h:Q c s):
  m_ prog w A (keyLt' (tuples' b) v u) Q E s:=by
 let⟨ps,rfl,hn⟩:=tp;let⟨qs,rfl⟩:=tq;let⟨a,its,rfl,⟨ox,hox,_,m,dx⟩,rs⟩:=r;let⟨a',its',rfl,⟨oy,hoy,_,m',dy⟩,rs'⟩:=r';refine kat_lt hox dx hoy dy ?_;have l1:=rs.length;have l2:=rs'.length;have e1:decide (its.toArray.size<its'.toArray.size)=decide (ps.length<qs.length):=by simp[l1,l2]
 rw[e1];exact Bd hu ps qs its its' 0 c (ay.mp kp) (ay.mp kq) rs rs' hc (λz=>hn (by cases b <;> simp at z;rfl)) rfl h
def fk:PV->Nat
 |.tup (.int _::_)=>0
 |.tup (.str _::_)=>1
 |.tup (.tup _::_)=>2
 |_=>3
def fkT(m:Nat):s_:=.type (if m=0 then "int" else if m=1 then "str" else "tuple")
theorem yX(hm:m<3):∀{ps:ue PV}{vs:ue s_},HRs s.heap ps vs->(∀p∈ps,fk p=m)->∃fs:ue s_,fs.length=vs.length/\KatTups s.heap vs fs/\∀f∈fs,Looks (model prog w) s.heap (typeOf f) (fkT m)
 |[],[],_,_=>⟨[],rfl,KatTups.nil,λ_ hf=>nomatch hf⟩
 |p::ps,v::vs,r,hs=>by
  let⟨fs,hl,ht,hT⟩:=yX hm r.2 λx hx=>hs x (aj _ hx);have h0:=hs p aw;have r1:=r.1;cases p with
  |tup xs=>
   let⟨a,its,rfl,⟨o,ho,hc,n,hd⟩,rx⟩:=r1;cases xs with
   |nil=>simp[fk]at h0;omega
   |cons x xs=>
    cases its with
    |nil=>exact rx.elim
    |cons f its=>
     refine⟨f::fs,by simp[hl],KatTups.cons ho hc hd (by simp) ht,λg hg=>?_⟩;rcases bx.mp hg with rfl|hg
     ·have rf:=rx.1;cases x with
      |int i=>let⟨t,rfl⟩:=rf;have:m=0:=h0.symm;subst this;exact Looks.now
      |str i=>let⟨t,rfl⟩:=rf;have:m=1:=h0.symm;subst this;exact Looks.now
      |tup i=>let⟨a',its',rfl,⟨o',ho',hc',n',hd'⟩,_⟩:=rf;have:m=2:=h0.symm;subst this;have:Looks (model prog w) s.heap (typeOf (.ref a')) o'.cls:=(Looks.ld ho').andThen .now;rw[hc']at this;exact this
      |_=>exact rf.elim
     ·exact hT g hg
  |_=>simp[fk]at h0;omega
 |[],_::_,r,_=>r.elim
 |_::_,[],r,_=>r.elim
def Iy(hm:m<3){vs:ue s_}{Q:j_ kr}(r:HRs s.heap ps vs)(hs:∀p∈ps,fk p=m)(h0:0<vs.length)(h:Q (tuples' (decide (m≠2))) s):m_ prog w A (keyKind' vs.toArray) Q E s:=by
 let⟨fs,hl,ht,hT⟩:=yX (prog:=prog) (w:=w) hm r hs;refine kat_kind (T:=fkT m) ht ⋯ hT ?_ ?_
 ·match m,hm with
  |0,_=>rfl
  |1,_=>rfl
  |2,_=>rfl
 ·have:((fkT m) != Value.type "tuple")=decide (m≠2):=by
   match m,hm with
   |0,_=>rfl
   |1,_=>rfl
   |2,_=>rfl
  rw[this];exact h
end
structure OkN(m:Nat)(xs:ue PV):Prop where
 m3:m<3
 ky:∀x∈xs,x.ky 20=true
 fk:∀x∈xs,fk x=m
 lt:∀x∈xs,∀y∈xs,(ltP 20 x y).isSome=true
def okN(xs:ue PV):Bool:=match xs with
 |[]=>true
 |x::_=>decide (fk x<3)&&xs.all (PV.ky 20)&&xs.all (λy=>fk y == fk x)&&xs.all λy=>xs.all λz=>(ltP 20 y z).isSome
def TH(h:okN xs=true):∃m,OkN m xs:=by
 cases xs with
 |nil=>exact⟨0,⋯,(λx hx=>nomatch hx),(λx hx=>nomatch hx),λx hx=>nomatch hx⟩
 |cons x xs=>have h':(decide (fk x<3)&&(x::xs).all (PV.ky 20)&&(x::xs).all (λy=>fk y == fk x)&&(x::xs).all λy=>(x::xs).all λz=>(ltP 20 y z).isSome)=true:=h;rw[cg,cg,cg]at h';let⟨⟨⟨h1,h2⟩,h3⟩,h4⟩:=h';exact⟨fk x,of_decide_eq_true h1,ay.mp h2,λy hy=>by simpa using ay.mp h3 y hy,λy hy z hz=>ay.mp (ay.mp h4 y hy) z hz⟩
def TJ(h:OkN m xs):okN xs=true:=by
 cases xs with
 |nil=>rfl
 |cons x xs=>
  show(decide (fk x<3)&&(x::xs).all (PV.ky 20)&&(x::xs).all (λy=>fk y == fk x)&&(x::xs).all λy=>(x::xs).all λz=>(ltP 20 y z).isSome)=true
  have hx:=h.fk x aw;rw[cg,cg,cg];exact⟨⟨⟨decide_eq_true (by rw[hx];exact h.m3),ay.mpr h.ky⟩,ay.mpr λy hy=>by rw[h.fk y hy,hx];simp⟩,ay.mpr λy hy=>ay.mpr λz hz=>h.lt y hy z hz⟩
theorem OkN.inj(h:OkN m xs):∀a∈xs,∀b∈xs,enc a=enc b->a=b:=λa ha b hb e=>by let⟨c,hc⟩:=ko.mp (h.lt a ha b hb);exact PF hc e
def Cj(hm:m<3)(h:fk p=m):∃ps,p=.tup ps/\(decide (m≠2)=true->Ml ps):=by
 cases p with
 |tup xs=>
  refine⟨xs,rfl,λhd=>?_⟩;have hd':m≠2:=of_decide_eq_true hd;cases xs with
  |nil=>trivial
  |cons x xs=>cases x <;> first|trivial|(exact(hd' h.symm).elim)
 |_=>simp[fk]at h;omega
theorem HRs.kept{h h':t_}(k:∀b o,h.get? b=a_ o->h'.get? b=a_ o)(r:HRs h ps vs):HRs h' ps vs:=HRs.keep (λa x ⟨o,ho,q⟩=>⟨o,k a o ho,q⟩) r
theorem HRs.getD{ps:ue PV}{vs:ue s_}(r:HRs h ps vs)(hi:i<ps.length):HR h (ps.getD i .non) (vs.getD i cx):=by
 have g:ps[i]?=a_ (ps.getD i .non):=by simp[hi]
 let⟨v,hv,hr⟩:=r.at g;have e:vs.getD i cx=v:=by simp[av,hv]
 rw[e];exact hr
section
variable{C:MC}{k:Nat}{X:Cx}
theorem RVs.pick'{xs:ue PV}{vs:ue V}(r:RVs C φ H xs vs):∀{p:ue Nat},(∀i∈p,i<xs.length)->RVs C φ H (p.map λi=>xs.getD i .non) (p.map λi=>vs.getD i .non)
 |[],_=>trivial
 |i::p,h=>by
  have hi:=h i aw;have g:xs[i]?=a_ (xs.getD i .non):=by simp[hi]
  let⟨v,hv,hr⟩:=r.at g;have e:vs.getD i .non=v:=by simp[av,hv]
  refine⟨?_,RVs.pick' r λj hj=>h j (aj _ hj)⟩
  show RV C φ H (xs.getD i .non) (vs.getD i .non)
  rw[e];exact hr
def TK(C:MC):ue V->Hp->VK->Prop:=λxs H Q=>∃φ p ys vs m,xs=[.ref p]/\SqL C.K H p vs/\RVs C φ H ys vs/\OkN m ys/\ys.length<1000000/\∀l vs',H l=b_->RVs C φ H (cW id ys) vs'->Q (.ref l) (upd H l (.lst vs'))
def Ck(c:Cxt C k X):iH X (.builtin "sorted") (TK C):=by
 intro pins s σ H xs us Q I r h;let⟨φ,p,ys,vs,m,rfl,sa,ra,ok,h64,fin⟩:=h;let⟨u,rfl,ru⟩:=vals1 r;cases ru
 have hu:X.A.in1.in1.units+19<cLine:=by
  have:=c.hu64
  show X.A.units+1+1+19<cLine
  omega
 have memD:∀i,i<ys.length->ys.getD i .non∈ys:=λi hi=>by
  have:ys.getD i .non=ys[i]:=by simp[hi]
  rw[this];exact de hi
 refine Jy (κ:=tuples' (decide (m≠2))) (λits s1=>Inv X pins σ H s1/\aR vs its) ?col ?fin
 case fin=>
  rintro its s1 ⟨I1,rv⟩;have l1:=rv.length;have l2:=ra.length;have hlen:its.length=ys.length:=⋯;have hr:HRs s1.heap ys its:=xH I1 c.K 20 ok.ky ra rv;refine⟨⋯,λi j=>ltN (ys.getD i .non) (ys.getD j .non),λi j k _ _ _ h1 h2=>Cg h1 h2,λi j _ _ h=>Ci h,λA' s' kp h0 Q' E' hq=>?_,λs' kp i j hi hj Q' hq=>?_,λq h' e a1 a2 kp he=>?_⟩
  ·exact Iy ok.m3 (hr.kept kp) ok.fk h0 hq
  ·have mi:=memD i ⋯;have mj:=memD j ⋯;let⟨b,hb⟩:=ko.mp (ok.lt _ mi _ mj);have hq:Q' (ltN (ys.getD i .non) (ys.getD j .non)) s':=hq;rw[Gn hb]at hq;let⟨qs,eq,_⟩:=Cj ok.m3 (ok.fk _ mj);exact Ej (n:=19) hu (ok.ky _ mi) (ok.ky _ mj) (Cj ok.m3 (ok.fk _ mi)) ⟨qs,eq⟩ ((hr.kept kp).getD ⋯) ((hr.kept kp).getD ⋯) hb hq
  ·have hin:∀i∈q,i<ys.length:=λi hi=>by have:=a1.mem_iff.mp hi;rw[qt]at this;omega
   rw[hlen]at a1;refine⟨.ref (e_ s1),_,I1.laid (t':=s1.toks) (o:=.lst (q.map λi=>vs.getD i .non)) kp (bq _) ?_,rfl,fin _ _ I1.fresh ?_⟩
   ·refine⟨?_,q.map (λi=>its.getD i cx),e,uC rv (λi hi=>by have:=hin i hi;omega),he⟩;rw[aq,a1.length_eq,k8,fm];omega
   ·have e1:q.map (λi=>ys.getD i .non)=cW id ys:=by refine oZ id (λa ha b hb e=>ok.inj a ha b hb e) (B6 a1) ?_;rw[i9];exact a2
    rw[<-e1];exact ra.pick' hin
 case col=>
  have sa':SqL X.K H p vs:=by rw[c.K];exact sa
  let⟨its,rv,pl,hz⟩:=I.list sa';refine collect_list pl.isList ?_ (by have:=rv.length;have:=ra.length;rw[fm];omega);exact⟨I.kept (t':=s.toks) λb o e=>by
   have hlt:b<(e_ s):=bf e
   first
    |(rw[Heap.get?_update_ne _ _ _ _ (bu hlt),og _ _ _ (bu hlt)];exact e)
    |exact ae _ e,rv⟩
def hW:ue PV->PH->Rs PV:=λxs h=>match xs with
 |[.ref n]=>match aS h n with
  |some ys=>if ys.length<1000000/\okN ys=true then .ok (.ref h.length) (h++[.lst (cW id ys)]) else .bad
  |none=>.bad
 |_=>.bad
def Be:vQ C k X (.builtin "sorted") hW:=λc=>iH.imp (Ck c) λvs H Q h=>by
 let⟨φ,h,ps,rh,rv,po⟩:=h;unfold hW at po;split at po
 ·rename_i n;split at po
  ·rename_i ys e;let⟨hc,po⟩:=po.ite;let⟨v,rfl,rx⟩:=rv.one;let⟨a,rfl,ha⟩:=rx;let⟨a2,vs,ha2,sa,ra⟩:=cR rh e;rw[ha]at ha2;cases ha2;let⟨m,ok⟩:=TH hc.2;exact⟨φ,a,ys,vs,m,rfl,sa,ra,ok,hc.1,λl vs' hl hr=>po.lnew rh hr hl⟩
  ·exact po.elim
 ·exact po.elim
def vX{h:PH}{ys:ue PV}(e:h[n]?=a_ (.lst ys))(hl:ys.length<1000000)(ok:OkN m ys):hW [.ref n] h=.ok (.ref h.length) (h++[.lst (cW id ys)]):=by
 have e1:aS h n=a_ ys:=by simp[aS,e]
 simp only[hW,e1];rw[if_pos ⟨hl,TJ ok⟩]
def Bf:ue PV->uf (ue Str)
 |[]=>a_ []
 |.str x::r=>(Bf r).map (x::·)
 |_=>b_
theorem Ek:∀ss:ue Str,Bf (ss.map PV.str)=a_ ss
 |[]=>rfl
 |x::r=>by
  show(Bf (r.map PV.str)).map (x::·)=_
  rw[Ek r];rfl
theorem El:∀{xs:ue PV}{ss:ue Str},Bf xs=a_ ss->xs=ss.map PV.str
 |[],ss,h=>by cases h;rfl
 |x::r,ss,h=>by
  cases x with
  |str z=>have h':(Bf r).map (z::·)=a_ ss:=h;let⟨t,ht,rfl⟩:=br.mp h';rw[El ht];rfl
  |_=>cases h
def unZ:ue Key->Str
 |[.inr x]=>x
 |_=>""
def Em(ss:ue Str):ue Str:=(uH (ss.map λx=>[(tm x:Key)])).map unZ
def Iz(ss:ue Str):(ss.map λx=>[(tm x:Key)]).map unZ=ss:=by rw[oj];exact(o5 λ_ _=>rfl).trans (List.map_id ss)
def Gq(ss:ue Str):(Em ss).Perm ss:=by have:=(hV (ss.map λx=>[(tm x:Key)])).map unZ;rw[Iz]at this;exact this
def qJ:ue PV->PH->Rs PV:=λxs h=>match xs with
 |[.ref n]=>match aS h n with
  |some ys=>match Bf ys with
   |some ss=>if ss.length<64 then .ok (.ref h.length) (h++[.lst ((Em ss).map PV.str)]) else .bad
   |none=>.bad
  |none=>.bad
 |_=>.bad
def PJ:vQ C k X (.builtin "sorted") qJ:=λc=>iH.imp (by have:=uA (X:=X);rw[c.K]at this;exact this) λvs H Q h=>by
 let⟨φ,h,ps,rh,rv,po⟩:=h;unfold qJ at po;split at po
 ·rename_i n;split at po
  ·rename_i ys e;split at po
   ·rename_i ss es;let⟨hc,po⟩:=po.ite;let⟨v,rfl,rx⟩:=rv.one;let⟨a,rfl,ha⟩:=rx;let⟨a2,vs,ha2,sa,ra⟩:=cR rh e;rw[ha]at ha2;cases ha2;have ey:=El es;subst ey;have ev:=Cf.mp ra;subst ev;refine⟨a,ss,rfl,sa,hc,λl ss' hl hp hs=>?_⟩;have e1:(ss'.map λx=>[(tm x:Key)])=uH (ss.map λx=>[(tm x:Key)]):=by
     refine Gj (S:=[false]) (λy hy=>?_) (hp.map _) ?_
     ·let⟨z,_,rfl⟩:=bz.mp hy;rfl
     ·cases ss' with
      |nil=>exact .nil
      |cons x r=>exact vU hs
    have e2:Em ss=ss':=by unfold Em;rw[<-e1,Iz]
    rw[e2]at po;exact po.lnew rh (Cf.mpr rfl) hl
   ·exact po.elim
  ·exact po.elim
 ·exact po.elim
def En{h:PH}{ss:ue Str}(e:h[n]?=a_ (.lst (ss.map PV.str)))(hl:ss.length<64):∃zs:ue Str,zs.Perm ss/\qJ [.ref n] h=.ok (.ref h.length) (h++[.lst (zs.map PV.str)]):=by
 refine⟨Em ss,Gq ss,?_⟩;have e1:aS h n=a_ (ss.map PV.str):=by simp[aS,e]
 simp only[qJ,e1,Ek];rw[if_pos hl]
end
end L2
namespace L2
abbrev KP:=ue Key×PV
def RT(x:KP):ue KP->ue KP
 |[]=>[x]
 |y::ys=>if iO y.1 x.1=true then y::RT x ys else x::y::ys
def Mm:ue KP->ue KP
 |[]=>[]
 |x::xs=>RT x (Mm xs)
open Classical in
noncomputable def sortBy(b:Bool)(ks ys:ue PV):uf (ue PV):=match RS ks with
 |some kss=>if kss.length<1000000/\kss.length=ys.length/\XR kss=true/\kss.Nodup then a_ ((PySem.W.katRev b (Mm (kss.zip ys))).map (·.2)) else b_
 |none=>b_
noncomputable def IA(f:Fn)(b:Bool)(ys:ue PV):ue PV->ue PV->PH->Rs PV
 |[],ks,h=>match sortBy b ks ys with
  |some zs=>.ok (.ref h.length) (h++[.lst zs])
  |none=>.bad
 |x::xs,ks,h=>(f [x] h).bind λk h1=>IA f b ys xs (ks++[k]) h1
def Mn(x:PV)(h:PH):uf (ue PV):=match x with
 |.ref n=>match aS h n with
  |some ys=>a_ ys
  |none=>Mf h n
 |.fl ys=>a_ ys
 |_=>b_
noncomputable def Mp(f:Fn)(b:Bool)(x:PV)(h:PH):Rs PV:=match Mn x h with
 |some ys=>if ys.length<1000000 then IA f b ys ys [] h else .bad
 |none=>.bad
noncomputable def TL(f:Fn)(b:Bool)(me:Me):Me:=λδ h=>(me δ h).bind λx h1=>Mp f b x h1
section
variable{C:MC}{k:Nat}{X:Cx}
theorem RVs.pick{xs:ue PV}{vs:ue V}(r:RVs C φ H xs vs):∀{p:ue Nat},(∀i∈p,i<xs.length)->RVs C φ H (p.map λi=>xs.getD i .non) (p.map λi=>vs.getD i .non)
 |[],_=>trivial
 |i::p,h=>by
  have hi:=h i aw;have g:xs[i]?=a_ (xs.getD i .non):=by simp[hi]
  let⟨v,hv,hr⟩:=r.at g;have e:vs.getD i .non=v:=by simp[av,hv]
  refine⟨?_,RVs.pick r λj hj=>h j (aj _ hj)⟩
  show RV C φ H (xs.getD i .non) (vs.getD i .non)
  rw[e];exact hr
def Mq{pins:g_ 0}{σ:St}{H:Hp}{s:tw}(I:Inv X pins σ H s){a:t7}(ha:(e_ s)<=a):X.s₀.heap.objs.size<=a/\a≠X.env.locals/\(∀x c,X.env.cells.lookup x=a_ c->c≠a)/\(∀p∈X.pn++pins,p.1≠a)/\a∉X.fs:=by
 refine⟨fv I.sz ha,ja (c9 I.lt ha),λx c e z=>?_,λp hp z=>?_,I.nofs ha⟩
 ·let⟨v,o,ho,_⟩:=I.cell x c e;rw[z]at ho;exact absurd (c9 (bf ho) ha) (i6 _)
 ·have ho:=(I.pin p hp).1;rw[z]at ho;exact absurd (c9 (bf ho) ha) (i6 _)
def oB:∀v,(seqObj "list" its e).data≠.cell v:=λv z=>nomatch z
theorem Inv.adopt{pins:g_ 0}{σ:St}{H:Hp}{s:tw}{a d:t7}{o:HO}{h':t_}(I:Inv X pins σ H s)(ha:H a=b_)(hd:H d=b_)
  (fa:X.s₀.heap.objs.size<=a/\a≠X.env.locals/\(∀x c,X.env.cells.lookup x=a_ c->c≠a)/\(∀p∈X.pn++pins,p.1≠a)/\a∉X.fs) (fd:X.s₀.heap.objs.size<=d/\d≠X.env.locals/\(∀x c,X.env.cells.lookup x=a_ c->c≠d)/\(∀p∈X.pn++pins,p.1≠d)/\d∉X.fs)
  (kp:∀x u,x≠a->x≠d->s.heap.get? x=a_ u->h'.get? x=a_ u) (new:dS X.prog X.w (upd H a o) h' a o):Inv X pins σ (upd H a o) {s with heap:=h'}:=by
 have na:∀x u,H x=a_ u->x≠a:=λx u e z=>by rw[z,ha]at e;cases e
 have nd:∀x u,H x=a_ u->x≠d:=λx u e z=>by rw[z,hd]at e;cases e
 refine I.call' (s':={s with heap:=h'}) (ch:=[a,d]) rfl ⟨λb u q n _ hx=>?_,λb u q n _ hx=>⟨u.slots,?_⟩,λb u q n hx=>?_,λb u q hx=>⟨u,?_⟩,λb xs q=>?_,λb u xs q=>?_,λb ps q=>⟨#[],?_⟩⟩ (λb u e=>?_) I.bare λb hb=>?_
 ·exact kp b u (λz=>hx (by simp[z])) (λz=>hx (by simp[z])) q
 ·exact kp b u (λz=>hx (by simp[z])) (λz=>hx (by simp[z])) q
 ·rw[aV (λz=>hx (by simp[z]))];exact n
 ·exact kp b u (λz=>hx (by simp[z])) (λz=>hx (by simp[z])) q
 ·rw[aV (na _ _ q)];exact q
 ·rw[aV (na _ _ q)];exact q
 ·rw[aV (na _ _ q),q];simp
 ·by_cases hb:b=a
  ·subst hb;rw[bE]at e;cases e;exact new
  ·rw[aV hb]at e;refine(I.hok b u e).stay (λc v hc q=>kp c v ?_ ?_ q) (λc q=>by rw[aV (na _ _ q)];exact q) λc xs q=>by rw[aV (na _ _ q)];exact q
   ·rcases hc with z|z
    ·rw[z];exact hb
    ·exact na _ _ z
   ·rcases hc with z|z
    ·rw[z];exact nd _ _ e
    ·exact nd _ _ z
 ·rcases bx.mp hb with rfl|hb
  ·exact⟨.inr fa.1,fa.2.1,fa.2.2.1,fa.2.2.2.1⟩
  ·rw[cw.mp hb];exact⟨.inr fd.1,fd.2.1,fd.2.2.1,fd.2.2.2.1⟩
end
end L2
namespace L2
open PySem
section
variable{δ:Ev}{h:PH}{m:Me}
@[simp]theorem UP:TL f b m δ h=(m δ h).bind λx h1=>Mp f b x h1:=(rfl)
def iA(e:bC h n=a_ kvs):∃o,h[n]?=a_ o/\nD (.ref n) h=true/\∀h',h'[n]?=a_ o->bC h' n=a_ kvs:=by
 unfold bC at e;split at e
 ·rename_i q;cases e;exact⟨_,q,by simp[nD,q],λh' e=>by simp[bC,e]⟩
 ·rename_i q;cases e;exact⟨_,q,by simp[nD,q],λh' e=>by simp[bC,e]⟩
 ·cases e
def cT(x:Ext h h')(e:bC h n=a_ kvs):bC h' n=a_ kvs:=by let⟨o,g,_,k⟩:=iA e;exact k h' (x _ _ g)
def TM{kvs:ue (PV×PV)}(e:bC h n=a_ kvs)(hk:(PV.tup xs).ky 6=true)(hl:kvs.length<16777216):Gg (.ref n) (.tup xs) z h=a_ (h.set n (.dD (kA kvs (.tup xs) z))):=by
 have k1:(PV.tup xs).isKt=true:=hk;have hl':kvs.length<bp:=by rw[rW];exact hl
 unfold Gg;simp only[G6,k1,if_true,e];rw[if_pos hl']
def JQ(e:bC h n=a_ kvs)(hk:(PV.tup xs).ky 6=true):fY (.tup xs) (.ref n) h=.ok (.bl (!(bQ kvs (.tup xs)).isSome)) h:=by
 have k1:(PV.tup xs).isKt=true:=hk;have:kX (.tup xs) (.ref n) h=a_ (bQ kvs (.tup xs)):=by simp only[kX,k1,if_true,e,Option.map_some]
 unfold fY;rw[this]
def Gr(e:bC h n=a_ kvs)(hk:(PV.tup xs).ky 6=true):Gf (.tup xs) (.ref n) h=.ok (.bl (bQ kvs (.tup xs)).isSome) h:=by
 have k1:(PV.tup xs).isKt=true:=hk;have:kX (.tup xs) (.ref n) h=a_ (bQ kvs (.tup xs)):=by simp only[kX,k1,if_true,e,Option.map_some]
 unfold Gf;rw[this]
@[simp]theorem TN:mI (.tup xs)=false:=(rfl)
@[simp]theorem TQ:mI .non=true:=(rfl)
end
section
variable{δ:Ev}{h h1:PH}{js:ue (uf Nat)}{tg:Mg}{elt:Me}{g:PH->Bool}
theorem Ext.setN{h hX:PH}(x:Ext h hX)(hn:h.length<=n):Ext h (hX.set n o):=λm o' e=>by have:=(ab.mp e).1;rw[dr ⋯];exact x m o' e
def Bg{xs ys:ue PV}(e1:h[n]?=a_ (.lst xs))(e2:h[m]?=a_ (.lst ys))(c:xs.length+ys.length<=16777216):bO (.ref n) (.ref m) h=.ok (.ref h.length) (h++[.lst (xs++ys)]):=by
 show LD (.ref n) (.ref m) h=_
 simp[LD,fL,e1,e2,c]
end
end L2
namespace L2
def JR(f:Str)(p:PV):ue (Str×PV)->ue (Str×PV)
 |[]=>[(f,p)]
 |(g,x)::r=>if g=f then(g,p)::r else(g,x)::JR f p r
def nE(x:PV)(h:PH):uf (Nat×Str×ue (Str×PV)):=match x with
 |.ref n=>match h[n]? with
  |some (.ins c fs)=>a_ (n,c,fs)
  |_=>b_
 |_=>b_
def wV(f:Str):PV->PH->Rs PV:=λx h=>match nE x h with
 |some (_,_,fs)=>match fs.lookup f with
  |some p=>.ok p h
  |none=>.bad
 |none=>.bad
def vY(f:Str)(x y:PV)(h:PH):uf PH:=match nE x h with
 |some (n,c,fs)=>if fs.length<1000 then a_ (h.set n (.ins c (JR f y fs))) else b_
 |none=>b_
section
variable{C:MC}{k:Nat}{X:Cx}
def Mr(r:RKv C φ H fs ks)(f:Str)(rv:RV C φ H p v):RKv C φ H (JR f p fs) (kH f v ks):=by
 unfold RKv at r⊢
 induction r with
 |nil=>exact .cons ⟨rfl,rv⟩ .nil
 | @cons a b as bs h t ih=>
  let⟨a1,a2⟩:=a;let⟨b1,b2⟩:=b;have e:a1=b1:=h.1;subst e;unfold JR kH;by_cases z:a1=f
  ·rw[if_pos z,if_pos z];exact .cons ⟨rfl,rv⟩ t
  ·rw[if_neg z,if_neg z];exact .cons h ih
def qK{fs:ue (Str×PV)}{ks:ue (Str×V)}(r:RKv C φ H fs ks)(f:Str):(fs.lookup f=b_/\ks.lookup f=b_)\/∃p v,fs.lookup f=a_ p/\ks.lookup f=a_ v/\RV C φ H p v:=by
 unfold RKv at r
 induction r with
 |nil=>exact .inl ⟨rfl,rfl⟩
 | @cons a b as bs h t ih=>
  let⟨a1,a2⟩:=a;let⟨b1,b2⟩:=b;have e:a1=b1:=h.1;subst e;simp only[df];cases z:(f == a1) with
  |true=>exact .inr ⟨a2,b2,rfl,rfl,h.2⟩
  |false=>exact ih
def sG{φ:ue t7}{h:PH}(rh:RH C φ H h)(rv:RV C φ H x v)(e:nE x h=a_ (n,c,fs)):
  ∃a ca dx ks,x=.ref n/\v=.ref a/\φ[n]?=a_ a/\h[n]?=a_ (.ins c fs)/\C.cl c=a_ ca/\H a=a_ (.ins ca dx ks)/\RKv C φ H fs ks:=by
 unfold nE at e;cases x with
 |ref m=>
  let⟨a,rfl,ha⟩:=rv;dsimp only at e;split at e
  ·rename_i c' fs' q;cases e
   let⟨ca,dx,ks,h1,h2,h3⟩:=rh.at' _ a _ ha q;exact⟨a,ca,dx,ks,rfl,rfl,ha,q,h1,h2,h3⟩
  ·cases e
 |_=>cases e
def Eo(C:MC)(f:Str):Prop:=∀c a,C.cl c=a_ a->Cls C.K a/\nM C.K a f
section
variable{e o value:uc}{f:Str}{m mo mv:Me}{pos pos' tpos:Pos}
def IB(hF:Eo C f)(he:SE C k X e m)(hb:my e f X.env (eval e X.env)=eval e X.env:=by rfl):SE C k X (.Attribute e f pos) (mUn (wV f) m):=λc=>
 (SH (he c) hb).imp λσ H Q h=>by
  let⟨φ,δ,h,rh,re,p⟩:=h;refine⟨φ,δ,h,rh,re,(post.bind p).imp ?_⟩;rintro v H1 ⟨φ1,x,h1,p1,t1,rh1,rv1,q1⟩;unfold wV at q1;cases ei:nE x h1 with
  |none=>rw[ei]at q1;exact q1.elim
  |some z=>
   let⟨n,cn,fs⟩:=z;rw[ei]at q1;dsimp only at q1;let⟨a,ca,dx,ks,rfl,rfl,ha,hh,hc,hH,rk⟩:=sG rh1 rv1 ei;let⟨cl,na⟩:=hF cn ca hc;rcases qK rk f with⟨l1,_⟩|⟨y,u,l1,l2,ru⟩
   ·rw[l1]at q1;exact q1.elim
   ·rw[l1]at q1;exact⟨a,ca,dx,ks,u,rfl,hH,by rw[c.K];exact cl,by rw[c.K];exact na,l2,q1.val rh1 ru⟩
def IC(f:Str)(mo mv:Me):Ms:=λδ h=>(mv δ h).fl λy h1=>(mo δ h1).fl λx h2=>match vY f x y h2 with
 |some h3=>.nx δ h3
 |none=>.bad
def PK{D:Ends}(c:Cxt C k X)(hF:Eo C f)(rh:RH C φ H h)(re:RE C φ H δ σ)(rx:RV C φ H x v)(ry:RV C φ H y u)(es:vY f x y h=a_ h3)(q:cJ C φ H (.nx δ h3) D):
  ∃a ca dx ks,v=.ref a/\H a=a_ (.ins ca dx ks)/\Cls X.K ca/\nM X.K ca f/\ks.length<1000/\D.nx σ (upd H a (.ins ca dx (kH f u ks)))/\∃n cn fs,nE x h=a_ (n,cn,fs)/\C.cl cn=a_ ca:=by
 unfold vY at es;cases ei:nE x h with
 |none=>rw[ei]at es;cases es
 |some z=>
  let⟨n,cn,fs⟩:=z;rw[ei]at es;dsimp only at es;split at es
  ·rename_i hl;cases es
   let⟨a,ca,dx,ks,rfl,rfl,ha,hh,hc,hH,rk⟩:=sG rh rx ei;let⟨cl,na⟩:=hF cn ca hc;have kp:Kp H (upd H a (.ins ca dx (kH f u ks))):=Kp.upd (by rw[hH];trivial);refine⟨a,ca,dx,ks,rfl,hH,by rw[c.K];exact cl,by rw[c.K];exact na,by rw[<-ft rk];exact hl,?_⟩;refine⟨q φ σ _ ba kp (rh.write ha (by rw[hH];trivial) ⟨ca,dx,_,hc,bE,?_⟩) (re.mono ba kp),n,cn,fs,rfl,hc⟩;exact(Mr rk f ry).mono ba kp
  ·cases es
def W7(hF:Eo C f)(hv:SE C k X value mv)(ho:SE C k X o mo)(hs:swapsWith value (a_ (.Attribute o f pos')) pos.line X.env=pure false:=by rfl):SSt C k X (.Assign [.Attribute o f pos'] value pos) (IC f mo mv):=λc=>
 (SJ (ho c) (hv c) hs).imp λD σ H h=>by
  let⟨φ,δ,h,rh,re,p⟩:=h;refine⟨φ,δ,h,rh,re,(post.fl p).imp ?_⟩;rintro u H1 ⟨φ1,y,h1,p1,t1,rh1,rv1,q1⟩;refine⟨φ1,δ,h1,rh1,re.mono p1 t1,(post.fl q1).imp ?_⟩;rintro v H2 ⟨φ2,x,h2,p2,t2,rh2,rv2,q2⟩;cases es:vY f x y h2 with
  |none=>rw[es]at q2;exact q2.elim
  |some h3=>rw[es]at q2;let⟨a,ca,dx,ks,g1,g2,g3,g4,g5,g6,_⟩:=PK c hF rh2 ((re.mono p1 t1).mono p2 t2) rv2 (rv1.mono p2 t2) es q2;exact⟨a,ca,dx,ks,g1,g2,g3,g4,g5,g6⟩
end
def Mt(C:MC)(X:Cx)(k:Nat)(m:Str)(n:Nat)(tb:Str->uf Fn):Prop:=∀c a f,C.cl c=a_ a->tb c=a_ f->
 ∃g fd ps j,Cls C.K a/\qZ C.K a m g/\j<=k/\bA X.prog X.w C.K X.mg X.base CX0 j g fd ps (spM C (n+1) f)/\Binds C.K fd ps []
def kB:Mt C X k m n (λ_=>b_):=λ_ _ _ _ h=>nomatch h
def gZ{tb:Str->uf Fn}(hc:C.cl c=a_ a)(hC:Cls C.K a)(me:qZ C.K a m g)(hj:j<=k)(G:bA X.prog X.w C.K X.mg X.base CX0 j g fd ps (spM C (n+1) f))(B:Binds C.K fd ps [])(r:Mt C X k m n tb):
  Mt C X k m n (λz=>if z=c then a_ f else tb z):=λc' a' f' h1 h2=>by
 have h2':(if c'=c then a_ f else tb c')=a_ f':=h2;by_cases e:c'=c
 ·subst e;rw[hc]at h1;cases h1
  rw[if_pos rfl]at h2';cases h2'
  exact⟨g,fd,ps,j,hC,me,hj,G,B⟩
 ·rw[if_neg e]at h2';exact r c' a' f' h1 h2'
def dX(m:Str)(n:Nat)(tb:Str->uf Fn)(mo:Me)(ms:Ma):Me:=λδ h=>(mo δ h).bind λx h1=>match nE x h1 with
 |some (_,c,fs)=>match tb c,fs.lookup m with
  |some f,b_=>(ms δ h1).bind λps h2=>if ps.length=n then f (x::ps) h2 else .bad
  |_,_=>.bad
 |none=>.bad
section
variable{o e:uc}{es:ue uc}{m:Str}{n:Nat}{tb:Str->uf Fn}{mo:Me}{ms:Ma}{pos apos:Pos}{pl:Sem Bool}
def Mu(hM:Mt C X k m n tb)(ho:SE C k X o mo)(ha:SA C k X (e::es) ms)(hst:da (e::es) X.env=(false,eval e X.env)::da es X.env:=by rfl)(hpl:(backTo pos (da es X.env)).any (·.1)=false:=by rfl)
  (ht:eval (.Call (.Attribute o m apos) (e::es) [] pos) X.env=(do
   let ov <-eval o X.env
   standAt apos.atName
   let (f,first) <-holding [ov] (getMethod ov m pl)
   callWith pos f first (backTo pos (da (e::es) X.env)) (backToKw pos (keywordEach [] X.env))):=by rfl):
  SE C k X (.Call (.Attribute o m apos) (e::es) [] pos) (dX m n tb mo ms):=λc pins s σ H Q I h=>by
 let⟨φ,δ,h,rh,re,p⟩:=h
 refine PySem.W.methodCall_KW (pl:=pl) (thn (ho c pins s σ H _ I ⟨φ,δ,h,rh,re,post.bind p⟩) λu s1 hh=>?_) ht
 let⟨v,H1,I1,ru,φ1,x,h1,p1,t1,rh1,rv1,q1⟩:=hh
 cases ei:nE x h1 with
 |none=>rw[ei]at q1;exact q1.elim
 |some z=>
  let⟨n',cn,fs⟩:=z
  rw[ei]at q1
  dsimp only at q1
  let⟨a,ca,dx,ks,rfl,rfl,hφ,hh,hc,hH,rk⟩:=sG rh1 rv1 ei
  cases et:tb cn with
  |none=>rw[et]at q1;exact q1.elim
  |some f=>
   rw[et]at q1
   rcases qK rk m with⟨l1,l2⟩|⟨y,u',l1,_⟩
   ·rw[l1]at q1
    dsimp only at q1
    let⟨g,fd,ps,j,cl,me,hj,F,bd⟩:=hM cn ca f hc et
    have cl':Cls X.K ca:=by rw[c.K];exact cl
    have me':qZ X.K ca m g:=by rw[c.K];exact me
    have F':bA X.prog X.w X.K X.mg X.base CX0 j g fd ps (spM C (n+1) f):=by rw[c.K];exact F
    have bd':Binds X.K fd ps []:=by rw[c.K];exact bd
    cases ru
    refine xS I1 hH cl' me' l2 ?_
    refine PySem.W.callWith_K (first:=[.ref a]) (h₀:=X.base) I.ok.mod.kin me'.kp (thn (ha c pos pins s1 σ H1 _ I1 ⟨φ1,δ,h1,rh1,re.mono p1 t1,postA.bind q1⟩) λus s2 h2=>?_) hst hpl
    let⟨vs,H2,I2,r2,φ2,zs,h3,p2,t2,rh2,rv2,q2⟩:=h2
    let⟨hl,q2⟩:=q2.ite
    refine⟨I2.kIn,?_⟩
    exact FH (us:=.ref a::us) (vs:=.ref a::vs) F' (c.room.mono hj) bd' .nil HL I2 (.cons rfl r2) ⟨φ2,h3,.ref n'::zs,rh2,⟨⟨a,rfl,jP p2 hφ⟩,(by show RVs C φ2 H2 zs (vs++[]);rw[dz];exact rv2)⟩,by simp[hl],q2⟩
   ·rw[l1]at q1;exact q1.elim
def jW(hM:Mt C X k m 0 tb)(ho:SE C k X o mo)
  (ht:eval (.Call (.Attribute o m apos) [] [] pos) X.env=(do
   let ov <-eval o X.env
   standAt apos.atName
   let (f,first) <-holding [ov] (getMethod ov m pl)
   callWith pos f first (backTo pos (da [] X.env)) (backToKw pos (keywordEach [] X.env))):=by rfl):
  SE C k X (.Call (.Attribute o m apos) [] [] pos) (dX m 0 tb mo aF):=λc pins s σ H Q I h=>by
 let⟨φ,δ,h,rh,re,p⟩:=h
 refine PySem.W.methodCall_KW (pl:=pl) (thn (ho c pins s σ H _ I ⟨φ,δ,h,rh,re,post.bind p⟩) λu s1 hh=>?_) ht
 let⟨v,H1,I1,ru,φ1,x,h1,p1,t1,rh1,rv1,q1⟩:=hh
 cases ei:nE x h1 with
 |none=>rw[ei]at q1;exact q1.elim
 |some z=>
  let⟨n',cn,fs⟩:=z
  rw[ei]at q1
  dsimp only at q1
  let⟨a,ca,dx,ks,rfl,rfl,hφ,hh,hc,hH,rk⟩:=sG rh1 rv1 ei
  cases et:tb cn with
  |none=>rw[et]at q1;exact q1.elim
  |some f=>
   rw[et]at q1
   rcases qK rk m with⟨l1,l2⟩|⟨y,u',l1,_⟩
   ·rw[l1]at q1
    dsimp only at q1
    let⟨g,fd,ps,j,cl,me,hj,F,bd⟩:=hM cn ca f hc et
    have cl':Cls X.K ca:=by rw[c.K];exact cl
    have me':qZ X.K ca m g:=by rw[c.K];exact me
    have F':bA X.prog X.w X.K X.mg X.base CX0 j g fd ps (spM C (0+1) f):=by rw[c.K];exact F
    have bd':Binds X.K fd ps []:=by rw[c.K];exact bd
    cases ru
    refine xS I1 hH cl' me' l2 ?_
    have q2:post C φ1 H1 (f [.ref n'] h1) Q:=q1
    exact PySem.W.callWith_K0 (first:=[.ref a]) I1.kIn me'.kp (FH (us:=[.ref a]) (vs:=[.ref a]) F' (c.room.mono hj) bd' .nil HL I1 (.cons rfl .nil) ⟨φ1,h1,[.ref n'],rh1,⟨⟨a,rfl,hφ⟩,trivial⟩,rfl,q2⟩)
   ·rw[l1]at q1;exact q1.elim
end
def nF(cn:Str)(n:Nat)(f:Fn)(ms:Ma):Me:=λδ h=>(ms δ h).bind λps h1=>if ps.length=n then(f (.ref h1.length::ps) (h1++[.ins cn []])).bind λv h2=>(match v with
 |.non=>.ok (.ref h1.length) h2
 |_=>.bad) else .bad
section
variable{x cn:Str}{ca f:t7}{fd:e7}{ps:ue Str}{j n:Nat}{fn:Fn}{e:uc}{es:ue uc}{ms:Ma}{p pos:Pos}
def PL{h:PH}{zs:ue PV}(hc:C.cl cn=a_ ca)(rh:RH C φ H h)(rv:RVs C φ H zs vs)(q:post C φ H (if zs.length=n then(fn (.ref h.length::zs) (h++[.ins cn []])).bind λv h2=>(match v with|.non=>Rs.ok (.ref h.length) h2|_=>.bad) else .bad) Q):
  ∀y dx,H y=b_->H dx=b_->dx≠y->spM C (n+1) fn (.ref y::(vs++[])) (upd (upd H dx (.own y)) y (.ins ca dx [])) (λv H2=>v=.non/\Q (.ref y) H2) E0:=λy dx hy hd ne=>by
 let⟨hl,q⟩:=q.ite;have hy':(upd H dx (.own y)) y=b_:=by rw[aV (iz ne)];exact hy
 have k1:Kp H (upd H dx (.own y)):=Kp.new hd;have k2:Kp (upd H dx (.own y)) (upd (upd H dx (.own y)) y (.ins ca dx [])):=Kp.new hy';have rh2:RH C (φ++[y]) (upd (upd H dx (.own y)) y (.ins ca dx [])) (h++[.ins cn []]):=(rh.aside hd).new hy' ⟨ca,dx,[],hc,bE,.nil⟩;have rvy:RV C (φ++[y]) (upd (upd H dx (.own y)) y (.ins ca dx [])) (.ref h.length) (.ref y):=⟨y,rfl,by rw[<-rh.len];simp⟩;refine⟨φ++[y],h++[.ins cn []],.ref h.length::zs,rh2,⟨rvy,by rw[dz];exact rv.mono (fe _ _) (k1.trans k2)⟩,by simp[hl],?_⟩;refine(post.bind (post.weak (fe _ [y]) (k1.trans k2) q)).imp ?_;rintro v H2 ⟨φ2,pv,h2,p2,t2,rh3,rv3,q3⟩;cases pv with
 |non=>cases rv3;exact⟨rfl,q3.val rh3 (rvy.mono p2 t2)⟩
 |_=>exact q3.elim
def Cm(hc:C.cl cn=a_ ca)(M:Mk C.K ca f)(F:bA X.prog X.w C.K X.mg X.base CX0 j f fd ps (spM C (0+1) fn))(hm:X.mg x=c_ ca)(bd:Binds C.K fd ps [])(hj:j+1<=k:=by decide)(hg:Gl X x:=by rfl)
  (hdb:(x == ("__debug__" : Str))=false:=by decide):SE C k X (.Call (.Name x p) [] [] pos) (nF cn 0 fn aF):=λc=>by
 have M':Mk X.K ca f:=by rw[c.K];exact M
 have F':bA X.prog X.w X.K X.mg X.base CX0 j f fd ps (spM C (0+1) fn):=by rw[c.K];exact F
 have bd':Binds X.K fd ps []:=by rw[c.K];exact bd
 refine(L6 M' F' (c.room.mono hj) hg hm bd' .nil HL hdb).imp λσ H Q h=>?_;let⟨φ,δ,h,rh,re,po⟩:=h;exact PL (zs:=[]) hc rh trivial po
end
end
def oC(x y v:PV)(h:PH):uf PH:=match x,y with
 |.ref n,.int i=>match fL h n with
  |some xs=>match ixN xs.length i with
   |some j=>a_ (h.set n (.lst (xs.set j v)))
   |none=>b_
  |none=>Gg x y v h
 |_,_=>Gg x y v h
def vZ(mv mo mi:Me):Ms:=λδ h=>(mv δ h).fl λv h1=>(mo δ h1).fl λx h2=>(mi δ h2).fl λy h3=>match oC x y v h3 with
 |some h4=>.nx δ h4
 |none=>.bad
def W9:ue PV->PH->Rs PV:=λxs h=>match xs with
 |[.bl b]=>.ok (.int (if b then 1 else 0)) h
 |[.int i]=>.ok (.int i) h
 |_=>.bad
section
variable{C:MC}{k:Nat}{X:Cx}
def Gs{φ:ue t7}{H:Hp}{h h':PH}{px py pv:PV}{x y v:V}(c:Cxt C k X)(rh:RH C φ H h)(rx:RV C φ H px x)(ry:RV C φ H py y)(rv:RV C φ H pv v)(e:oC px py pv h=a_ h'){pins:g_ 0}{σ:St}{s:tw}{xu yu vu:s_}
  {Q:j_ Unit} (I:Inv X pins σ H s) (rxu:RelV x xu) (ryu:RelV y yu) (rvu:RelV v vu) (q:∀s' H',Inv X pins σ H' s'->Kp H H'->RH C φ H' h'->Q () s'):wpAny (h_ X) X.A (setItem xu yu vu) Q X.xe s:=by
 unfold oC at e;split at e
 ·rename_i n i;split at e
  ·rename_i xs el;split at e
   ·rename_i j ej;cases e
    let⟨a,rfl,ha⟩:=rx;cases ry
    let⟨ws,hH,rw'⟩:=rh.at' n a _ ha (kM el);refine thn (set_list pins s σ H (.ref a) (.int i) v xu yu vu (λH'=>H'=upd H a (.lst (ws.set j v))) I rxu ryu rvu ⟨a,ws,i,j,rfl,rfl,hH,by rw[<-rw'.length];exact ej,rfl⟩) ?_;rintro _ s' ⟨H',I',rfl⟩;refine q s' _ I' (Kp.lst hH) (rh.write ha (by rw[hH];trivial) ⟨_,bE,(RVs.set rv j rw').mono ba (Kp.lst hH)⟩)
   ·cases e
  ·exact Bb c rh rx ry rv e I rxu ryu rvu q
 ·exact Bb c rh rx ry rv e I rxu ryu rvu q
def Cn{pos:Pos}(hv:SE C k X value mv)(ho:SE C k X o mo)(hi:SE C k X i mi)(hs:swapsWith value (a_ (.Subscript o i pos')) pos.line X.env=pure false:=by rfl):
  SSt C k X (.Assign [.Subscript o i pos'] value pos) (vZ mv mo mi):=λc pins s σ H D I ⟨φ,δ,h,rh,re,p⟩=>by
 refine wpAny_Assign_Subscript (thn (hv c pins s σ H _ I ⟨φ,δ,h,rh,re,post.fl p⟩) ?_) hs;rintro vu s1 ⟨v,H1,I1,rvu,φ1,pv,h1,p1,t1,rh1,rv1,q1⟩;refine thn (ho c pins s1 σ H1 _ I1 ⟨φ1,δ,h1,rh1,re.mono p1 t1,post.fl q1⟩) ?_;rintro xu s2 ⟨x,H2,I2,rxu,φ2,px,h2,p2,t2,rh2,rv2,q2⟩;refine thn (hi c pins s2 σ H2 _ I2 ⟨φ2,δ,h2,rh2,(re.mono p1 t1).mono p2 t2,post.fl q2⟩) ?_;rintro yu s3 ⟨y,H3,I3,ryu,φ3,py,h3,p3,t3,rh3,rv3,q3⟩;cases e:oC px py pv h3 with
 |none=>rw[e]at q3;exact q3.elim
 |some h4=>rw[e]at q3;exact Gs c rh3 (rv2.mono p3 t3) rv3 ((rv1.mono p2 t2).mono p3 t3) e I3 rxu ryu rvu λs' H' I' kp rh'=>⟨σ,H',I',q3 φ3 σ H' ba kp rh' ((((re.mono p1 t1).mono p2 t2).mono p3 t3).mono ba kp)⟩
end
section
variable{δ:Ev}{h:PH}{m mo mv:Me}{E:FE}
def yY(e:h[n]?=a_ (.ins c fs)):nE (.ref n) h=a_ (n,c,fs):=by simp[nE,e]
def Co{fs:ue (Str×PV)}(e:h[n]?=a_ (.ins c fs))(l:fs.lookup f=a_ p):wV f (.ref n) h=.ok p h:=by simp[wV,yY e,l]
def Mv{fs:ue (Str×PV)}(e:h[n]?=a_ (.ins c fs))(l:fs.length<1000):vY f (.ref n) p h=a_ (h.set n (.ins c (JR f p fs))):=by simp[vY,yY e,l]
@[simp]theorem XS:(IC f mo mv δ h).W E=(mv δ h).W λy h1=>(mo δ h1).W λx h2=>∃h3,vY f x y h2=a_ h3/\E.nx δ h3:=by
 unfold IC;rw[JL];congr 1;funext y h1;rw[JL];congr 1;funext x h2;cases e:vY f x y h2 <;> simp
@[simp]theorem Mw:nF cn n f ms δ h=(ms δ h).bind λps h1=>if ps.length=n then(f (.ref h1.length::ps) (h1++[.ins cn []])).bind λv h2=>(match v with|.non=>.ok (.ref h1.length) h2|_=>.bad) else .bad:=(rfl)
def Mx{tb:Str->uf Fn}{h1:PH}{fs:ue (Str×PV)}(e:mo δ h=.ok (.ref k) h1)(g:h1[k]?=a_ (.ins c fs))(t:tb c=a_ f)(l:fs.lookup mm=b_):
  dX mm n tb mo ms δ h=(ms δ h1).bind λps h2=>if ps.length=n then f (.ref k::ps) h2 else .bad:=by
 unfold dX;rw[e,Rs.bind_ok,yY g];simp only[t,l]
@[simp]theorem My:(vZ mv mo mi δ h).W E=(mv δ h).W λv h1=>(mo δ h1).W λx h2=>(mi δ h2).W λy h3=>∃h4,oC x y v h3=a_ h4/\E.nx δ h4:=by
 unfold vZ;rw[JL];congr 1;funext v h1;rw[JL];congr 1;funext x h2;rw[JL];congr 1;funext y h3;cases e:oC x y v h3 <;> simp
def JS{xs:ue PV}{i:Int}(e:h[n]?=a_ (.lst xs))(h0:0<=i)(h1:i<xs.length):oC (.ref n) (.int i) v h=a_ (h.set n (.lst (xs.set i.toNat v))):=by
 have e1:fL h n=a_ xs:=by simp[fL,e]
 have e2:ixN xs.length i=a_ i.toNat:=by unfold ixN;rw[if_pos h0,if_pos h1]
 simp[oC,e1,e2]
@[simp]theorem Wa:W9 [.bl b] h=.ok (.int (if b then 1 else 0)) h:=(rfl)
end
def Wb:ue Int->Int
 |[]=>0
 |[x]=>x
 |x::y::r=>max x (Wb (y::r))
def Wc:ue Int->Int
 |[]=>0
 |[x]=>x
 |x::y::r=>min x (Wc (y::r))
def Wd:ue PV->PH->Rs PV:=λxs h=>match xs with
 |[.ref n]=>match aS h n with
  |some ys=>match M4 ys with
   |some (a::ns)=>.ok (.int (Wb (a::ns))) h
   |_=>.bad
  |none=>.bad
 |_=>VE xs h
def We:ue PV->PH->Rs PV:=λxs h=>match xs with
 |[.ref n]=>match aS h n with
  |some ys=>match M4 ys with
   |some (a::ns)=>.ok (.int (Wc (a::ns))) h
   |_=>.bad
  |none=>.bad
 |_=>VG xs h
section
variable{h:PH}
@[simp]theorem UQ:Wd [.int i,.int j] h=.ok (.int (if j>i then j else i)) h:=(rfl)
@[simp]theorem UR:We [.int i,.int j] h=.ok (.int (if j<i then j else i)) h:=(rfl)
end
def Cp:typeLookup (.type "list") "keys" = pure b_:=by rw[typeLookup_type,builtinLookup_eq_fast];kernel_rfl
def sH{A:t9}{E:f_ 0}{s:tw}{o:Obj}{Q:uf s_->tw->Prop}(hx:s.heap.get? a=a_ o)(hc:o.cls=.type "list")(hdat:o.data=.seq xs k)(hd:o.dict=b_)(hA:A.handled=b_)(h:∀h' tk,(∀b u,s.heap.get? b=a_ u->h'.get? b=a_ u)->Q b_ {s with heap:=h',toks:=tk}):m_ prog w A (getAttr? (.ref a) "keys") Q E s:=by
 let⟨c,dct,dat,sl⟩:=o;simp only at hc hdat hd;subst hc hdat hd;let⟨hp,g,d,tk,os⟩:=s;have hT:∀tk',(⟨hp,g,d,tk',os⟩:tw).TypeIs (.ref a) "list" := λ_=>⟨_,hx,rfl⟩;have f1:=sub_AttributeError;have f3:=F.slot_list_getattribute.lookup;have f4:=F.slot_list_getattribute.bind (.ref a);have f5:=am_list_getattr_none;unfold getAttr? getAttrBy? getAttrBy
 repeat (any_goals (first|assumption|exact hT _|((with_reducible show wpAny _ _ (call (sx "list.__getattribute__") _ _) _ _ _);refine call_meets F.slot_list_getattribute (hT _) am_entry_list_getattribute (F.args_list_getattribute_2 _ _) (meets_getattribute_miss_list a xs k sl "keys" _ Cp nofun (by size_fits)) ⟨hx,hA,λh' tk' e hx'=>?_⟩)|wp_step))
 let⟨t',u',he⟩:=hx'.there
 show wpAny _ _ (getattributeRaised _ _ _ _ _ _ _) _ _ _
 unfold getattributeRaised
 repeat (any_goals (first|assumption|wp_step))
 exact h _ _ hx'.of.keeps
section
variable{prog:ub}{w:ua}{K:Type}[DecidableEq K]{knd:HeapKind prog w K}{A:t9}{R:j_ Result}
def wA(xs:ue (K×t7×s_))(ps:ue (t7×K×t7×s_)):ue (K×t7×s_):=ps.foldl (λacc p=>storedH acc p.2.1 p.2.2.1 p.2.2.2) xs
def oE(xs:ue (K×t7×s_))(k:K)(a:t7)(v:s_):(storedH xs k a v).length<=xs.length+1:=by
 unfold storedH;split
 ·rw[aq];omega
 ·simp
def wB{xs:ue (K×t7×s_)}{k:K}{a:t7}{v:s_}{x:K×t7×s_}(h:x∈storedH xs k a v):(∃y∈xs,x.1=y.1/\x.2.1=y.2.1)\/(x.1=k/\x.2.1=a):=by
 unfold storedH at h;split at h
 ·let⟨y,hy,rfl⟩:=bz.mp h;refine .inl ⟨y,hy,?_,?_⟩
  ·unfold putAt;split <;> rfl
  ·unfold putAt;split <;> rfl
 ·rcases ai.mp h with h|h
  ·exact .inl ⟨x,h,rfl,rfl⟩
  ·rw[cw.mp h];exact .inr ⟨rfl,rfl⟩
def Ep{I d:t7}{fp wr:ue t7}{n:Nat}{P:Nat->s_->Prop}{St:Nat->t_->Prop}(W:Walks prog w A.in1 I fp wr n P St)(hd:d∉fp)(hu:knd.room A.in1)(ps:ue (t7×K×t7×s_))(hn:ps.length=n)
  (hP:∀i v,P i v->∃p,ps[i]?=a_ p/\v=.ref p.1) (h0:t_) (hw0:∀b u,h0.get? b=a_ u->b∉wr/\b≠d)
  (hk:∀h',(∀b u,h0.get? b=a_ u->h'.get? b=a_ u)->∀p∈ps,knd.is h' p.2.1 p.2.2.1/\IsTup h' p.1 #[.ref p.2.2.1,p.2.2.2]) (res:s_):
  ∀(m i:Nat)(s:tw)(xs:ue (K×t7×s_)),n-i=m->i<=n->St i s.heap->s.heap.DictOfH knd d xs->(∀x∈xs,∃p∈ps,x.1=p.2.1/\x.2.1=p.2.2.1)->xs.length+n<=bp+i->(∀b u,h0.get? b=a_ u->s.heap.get? b=a_ u)->
  (∀h' tk,h'.DictOfH knd d (wA xs (ps.drop i))->(∀b u,h0.get? b=a_ u->h'.get? b=a_ u)->R (.ok (.ret res)) {s with heap:=h',toks:=tk})->
  codeAny (model prog w) A (.builtin "dict.update.loop" ⟨[.ref d,.ref I,rawInt i,res],[]⟩) R s:=by
 have hdw:d∉wr:=λh=>hd (W.sub _ h);intro m
 induction m with
 |zero=>
  intro i s xs hm hi hst hdt hxs hz hit hR;have hin:i=n:=⋯;subst hin;refine jx dJ ?_;rw[gv bG _]
  show wpAny _ A.in1 (pyNext (.ref I) >>= _) _ _ s
  refine aa (W.done s _ _ hst λh' tk hk'=>?_)
  show wpAny _ A.in1 (r9 d [] >>= _) _ _ _
  have h00:∀b u,h0.get? b=a_ u->h'.get? b=a_ u:=λb u e=>hk' b u (hw0 b u e).1 (hit b u e);have hfin:=hR h' tk (by rw[mf ⋯];let⟨o,es,ep,h1,h2,h3,h4,h5,h6⟩:=hdt;refine⟨o,es,ep,hk' d _ hdw h1,h2,h3,h4,λx hx=>?_,h6⟩;let⟨p,hp,e1,e2⟩:=hxs x hx;rw[e1,e2];exact(hk h' h00 p hp).1) h00;exact aa (af (af hfin))
 |succ m ih=>
  intro i s xs hm hi hst hdt hxs hz hit hR;have hlt:i<n:=⋯;refine jx dJ ?_;rw[gv bG _]
  show wpAny _ A.in1 (pyNext (.ref I) >>= _) _ _ s
  refine aa (W.item i s _ _ hlt hst λv h' tk hPv hst' hk'=>?_);let⟨p,hp,rfl⟩:=hP i v hPv;have hpm:=cq hp;have h00:∀b u,h0.get? b=a_ u->h'.get? b=a_ u:=λb u e=>hk' b u (hw0 b u e).1 (hit b u e);let⟨hki,ob,hb1',hb2,nn,hb3⟩:=hk h' h00 p hpm;have hTy:({s with heap:=h',toks:=tk}:tw).TypeIs (.ref p.1) "tuple" := ⟨ob,hb1',hb2⟩;have hdt':h'.DictOfH knd d xs:=by let⟨o,es,ep,h1,h2,h3,h4,h5,h6⟩:=hdt;refine⟨o,es,ep,hk' d _ hdw h1,h2,h3,h4,λx hx=>?_,h6⟩;let⟨p,hp,e1,e2⟩:=hxs x hx;rw[e1,e2];exact(hk h' h00 p hp).1
  refine aa (fo (aa (wpAny_tryCatch ?_)));unfold ti;refine aa (mz hTy ?_);rw[if_pos nofun];refine aa (kg hb1' hb3 (af ?_))
  show wpAny _ _ (holding [.ref p.2.2.1,p.2.2.2] (dictSet d (.ref p.2.2.1) p.2.2.2)) _ _ _
  refine fo (wpAny_dictSet_heap (hsz:=by omega) hu hki hdt' λh2 hd2 hs2=>?_);refine af ⟨kz bG _,?_⟩;have st2:St (i+1) h2:=W.frame (i+1) h' h2 hst' λb hb o e=>(hs2.2 b (λz=>hd (z▸hb))).trans e;refine ih (i+1) _ (storedH xs p.2.1 p.2.2.1 p.2.2.2) ⋯ hlt st2 hd2 (λx hx=>?_) ?_ (λb u e=>(hs2.2 b (hw0 b u e).2).trans (h00 b u e)) λh3 tk3 hd3 hk3=>?_
  ·rcases wB hx with⟨y,hy,e1,e2⟩|⟨e1,e2⟩
   ·rw[e1,e2];exact hxs y hy
   ·exact⟨p,hpm,e1,e2⟩
  ·have:=oE xs p.2.1 p.2.2.1 p.2.2.2;omega
  ·refine hR h3 tk3 ?_ hk3;have hdr:ps.drop i=p::ps.drop (i+1):=by let⟨hl,e⟩:=ab.mp hp;rw[d7 hl,e]
   rw[hdr];exact hd3
def wW{E:f_ 0}{s:tw}{o:Obj}{ps:ue (t7×K×t7×s_)}{Q:f_ 0}(hA:A.handled=b_)(hu:knd.room A.in1.in1)(hx:s.heap.get? a=a_ o)(hc:o.cls=.type "list")(hdat:o.data=.seq (ps.map λp=>dh p.1).toArray k)(hd:o.dict=b_)(hk:∀h',(∀b u,s.heap.get? b=a_ u->h'.get? b=a_ u)->∀p∈ps,knd.is h' p.2.1 p.2.2.1/\IsTup h' p.1 #[.ref p.2.2.1,p.2.2.2])(hz:ps.length<=bp)(h:∀h' tk,h'.DictOfH knd (e_ s) (wA [] ps)->(∀b u,s.heap.get? b=a_ u->h'.get? b=a_ u)->Q (.ref (e_ s)) {s with heap:=h',toks:=tk}):
  m_ prog w A (call (.type "dict") [.ref a]) Q E s:=by
 refine callType_codes (Q₁:=λobj s₁=>obj=.ref (e_ s)/\s₁={s with heap:=s.heap.push {cls:=.type "dict",data:=.dict #[]} }) F.kt_called_dict (F.kt_typeCall_dict_1 _) F.entry_dict_init (kt_code_dict_new _ ⟨rfl,rfl⟩) ?_;rintro obj s₁ ⟨rfl,rfl⟩;have hnew:(s.heap.push {cls:=.type "dict",data:=.dict #[]}).DictOfH knd (e_ s) []:=Heap.DictOfH.new s.heap;have up:∀b u,s.heap.get? b=a_ u->(s.heap.push {cls:=.type "dict",data:=.dict #[]}).get? b=a_ u:=λb u e=>ae _ e;have hTa:({s with heap:=s.heap.push {cls:=.type "dict",data:=.dict #[]} }:tw).TypeIs (.ref a) "list" := ⟨o,up _ _ hx,hc⟩;refine⟨hnew.typeIs,F.args_dict_init_2 _ _,?_⟩;unfold Builtin.«dict.__init__»;refine aa ?_;unfold se;refine aa (m7 hnew.typeIs (show wpAny _ _ (pure (s.heap.objs.size,[dh a])) _ _ _ from af ?_))
 show wpAny _ _ (jy "dict.__init__" (e_ s) (.ref a) [] .none) _ _ _
 unfold jy;refine aa (mz hTa ?_);rw[if_pos nofun];refine aa (sH (up _ _ hx) hc hdat hd hA λh1 tk1 kp1=>?_);rw[if_pos (by rfl)];refine aa (mq ?_);have ha1:h1.IsList a (ps.map λp=>dh p.1).toArray:=⟨o,kp1 _ _ (up _ _ hx),hc,k,hdat⟩;refine aa (qo (s:={s with heap:=h1,toks:=tk1}) ha1 (af ⟨kz bG _,?_⟩));have lt0:(e_ s)<h1.objs.size:=by have:=kp1 (e_ s) _ (bo s.heap rfl);exact bf this
 have hlt:∀b u,s.heap.get? b=a_ u->b<(e_ s):=λb u e=>bf e;have ha0:=hlt _ _ hx;refine Ep (knd:=knd) (fp:=[h1.objs.size,a]) (wr:=[h1.objs.size]) (n:=(ps.map λp=>dh p.1).toArray.size) (Walks.list (A:=A.in1.in1) hA h1.objs.size a (bu (qe ha0 lt0)) (ps.map λp=>dh p.1).toArray) ?_ hu ps (by simp) (λi v e=>?_) s.heap (λb u e=>?_) hk .none _ 0 _ [] (j0 _) (cv _) ?_ ?_ (λx hx=>nomatch hx) (l_ hz) (λb u e=>?_) λh' tk dd kk=>?_
 ·intro z;rcases bx.mp z with z|z
  ·exact bu lt0 z
  ·exact bu ha0 (cw.mp z).symm
 ·have e':(ps.map λp=>dh p.1)[i]?=a_ v:=by simpa using e
  rw[ar]at e';let⟨p,hp,rfl⟩:=br.mp e';exact⟨p,hp,rfl⟩
 ·have h0:=hlt _ _ e;exact⟨λz=>bu (qe h0 lt0) (cw.mp z),bu h0⟩
 ·refine⟨⟨_,bo _ rfl,rfl,rfl⟩,?_⟩;let⟨ob,e,r⟩:=ha1;exact⟨ob,ae _ e,r⟩
 ·let⟨oo,es,ep,e,r1,r2,r3,r4,r5⟩:=hnew;exact⟨oo,es,ep,ae _ (kp1 _ _ e),r1,r2,r3,(λx hx=>nomatch hx),r5⟩
 ·exact ae _ (kp1 _ _ (up _ _ e))
 ·exact⟨rfl,h h' tk (l_ dd) kk⟩
end
section
variable{C:MC}{k:Nat}{X:Cx}{φ:ue t7}{H:Hp}{pins:g_ 0}{σ:St}{s:tw}
def gM:ue PV->uf (ue (PV×PV))
 |[]=>a_ []
 |.tup [y,v]::r=>if y.isKt=true then(gM r).map ((y,v)::·) else b_
 |_=>b_
def uK(kvs more:ue (PV×PV)):ue (PV×PV):=more.foldl (λacc kv=>kA acc kv.1 kv.2) kvs
def Bh{h h':t_}(kp:∀b u,h.get? b=a_ u->h'.get? b=a_ u)(a:t7)(x:Array s_):IsTup h a x->IsTup h' a x:=λ⟨o,e,r⟩=>⟨o,kp _ _ e,r⟩
theorem yZ(I:Inv X pins σ H s)(hK:X.K=C.K):∀{ps:ue PV}{rs:ue (PV×PV)}{vs:ue V}{us:ue s_},gM ps=a_ rs->RVs C φ H ps vs->aR vs us->
  ∃qs:ue (t7×PV×t7×s_),us=qs.map (λq=>dh q.1)/\(∀h',(∀b u,s.heap.get? b=a_ u->h'.get? b=a_ u)->∀q∈qs,(nR X.prog X.w).is h' q.2.1 q.2.2.1/\IsTup h' q.1 #[.ref q.2.2.1,q.2.2.2])/\
   ∀{kvs:ue (PV×PV)}{ks:ue (PV×t7×V)}{xs:ue (PV×t7×s_)},RKd C φ H kvs ks->pP ks xs->∃ks',RKd C φ H (uK kvs rs) ks'/\pP ks' (wA xs qs)
 |[],rs,[],us,e,_,ru=>by
  cases ru
  cases e
  exact⟨[],rfl,(λ_ _ _ h=>nomatch h),λr rx=>⟨_,r,rx⟩⟩
 |p::ps,rs,v::vs,us,e,r,ru=>by
  cases ru with
  | @cons _ u _ us' h t=>
   cases p with
   |tup xs=>
    match xs,e with
    |[y,z],e=>
     unfold gM at e;split at e
     ·rename_i hk;cases e2:gM ps with
      |none=>rw[e2]at e;cases e
      |some rs'=>
       rw[e2]at e;cases e
       let⟨qs,rfl,a1,a2⟩:=yZ I hK e2 r.2 t;let⟨b,bs,rfl,sq,rb⟩:=r.1;cases h
       let⟨yv,zv,rfl,ry,rz⟩:=rb.two;rw[<-hK]at sq;let⟨its,rits,pt,_⟩:=I.tuple sq;let⟨yu,zu,rfl,ryu,rzu⟩:=vals2 rits;let⟨c,rfl⟩:=mM hk ry;cases ryu
       have hki:=yS I hK hk ry;refine⟨(b,y,c,zu)::qs,rfl,?_,λ{kvs ks xs} r' rx'=>?_⟩
       ·intro h' kp q hq;rcases bx.mp hq with rfl|hq
        ·exact⟨⟨hki.1,HR.keep (Bh kp) hki.2⟩,Bh kp _ _ pt⟩
        ·exact a1 h' kp q hq
       ·let⟨ks',r1,r2⟩:=HD.put (a:=b) r' rx' (sD hk) ry rz rzu;exact a2 r1 r2
     ·cases e
    |[],e=>cases e
    |[_],e=>cases e
    |_::_::_::_,e=>cases e
   |_=>cases e
 |[],_,_::_,_,_,r,_=>r.elim
 |_::_,_,[],_,_,r,_=>r.elim
def oF:ue PV->PH->Rs PV:=λxs h=>match xs with
 |[.ref n]=>match h[n]? with
  |some (.lst ps)=>match gM ps with
   |some rs=>.ok (.ref h.length) (h++[.dD (uK [] rs)])
   |none=>.bad
  |_=>Iu xs h
 |_=>Iu xs h
theorem uL{K:Type}[DecidableEq K]:∀(ps:ue (t7×K×t7×s_))(xs:ue (K×t7×s_)),(wA xs ps).length<=xs.length+ps.length
 |[],xs=>bq _
 |p::ps,xs=>by
  have:=uL ps (storedH xs p.2.1 p.2.2.1 p.2.2.2);have h2:=oE xs p.2.1 p.2.2.1 p.2.2.2
  show(wA (storedH xs p.2.1 p.2.2.1 p.2.2.2) ps).length<=_
  rw[dm];omega
def ID:vQ C k X (.type "dict") oF:=λc pins s σ H xs us Q I r h=>by
 let⟨φ,h,ps,rh,rv,po⟩:=h;unfold oF at po;split at po
 ·rename_i n;split at po
  ·rename_i ls hk;split at po
   ·rename_i rs e;let⟨v,rfl,rx⟩:=rv.one;let⟨a,rfl,ha⟩:=rx;let⟨u,rfl,ru⟩:=vals1 r;cases ru
    let⟨vs,hH,rvs⟩:=rh.at' n a _ ha hk;let⟨hz,its,m,rits,hl,hx⟩:=I.lstM hH;let⟨qs,rfl,a1,a2⟩:=yZ I c.K e rvs rits;have hq:qs.length<=bp:=by rw[aq]at hl;omega
    have rm:(nR X.prog X.w).room X.A.in1.in1:=by
     have:=c.hu64
     show X.A.units+1+1+6<cLine
     omega
    refine wW (knd:=nR X.prog X.w) (I.ok.hd c.calm) rm hx rfl rfl rfl a1 hq λh' tk dd kk=>?_;let⟨ks',r1,r2⟩:=a2 (.nil:RKd C φ H [] []) (.nil:pP [] []);have fr:H (e_ s)=b_:=I.fresh;let⟨o,es,ep,hq1,h2,h3,h4,h5',h5⟩:=dd;have hl2:ks'.length<=bp:=by have e1:=ft r2;have e2:=uL qs ([]:ue (PV×t7×s_));simp at e2;omega
    refine⟨.ref (e_ s),_,I.laid (a:=(e_ s)) (o:=dDO C.w (e_ s) ks') (t':=tk) kk (bq _) ⟨⟨hl2,beq_eq_false_iff_ne.mpr (iz (bu I.big)),_,r2,o,es,ep,hq1,h2,h3,?_,h5⟩,⟨o,hq1⟩,?_⟩,rfl,?_⟩
    ·rw[h4,<-c.w];rfl
    ·rintro g1 g2 ⟨z1,z2,ws,z3,o',es',ep',z4,z5⟩ keep;exact⟨z1,z2,ws,z3,o',es',ep',keep _ z4,z5⟩
    ·exact po (φ++[(e_ s)]) (.ref _) _ (fe _ _) (Kp.new fr) (rh.new fr ⟨_,bE,RKd.mono (fe _ _) (Kp.new fr) r1⟩) ⟨_,rfl,by rw[<-rh.len];simp⟩
   ·exact po.elim
  ·exact Mc c pins s σ H xs us Q I r ⟨φ,h,_,rh,rv,po⟩
 ·exact Mc c pins s σ H xs us Q I r ⟨φ,h,_,rh,rv,po⟩
end
end L2
namespace L2
open PySem.SeqAt
open PySem.AutoSeq1 (wpAny_loadPart')
open PySem.MeetsSeq PySem.MeetsSeq2 PySem.MeetsSeq3
section
variable{C:MC}{k:Nat}{X:Cx}
def Wf:PV->PV->PH->Rs PV:=λx y h=>match x,y with
 |.tup xs,.tup ys=>ofB ((LZ (.tup xs) (.tup ys)).map (!·)) h
 |x,y=>vGe x y h
variable{h:PH}
@[simp]theorem Wg:Wf (.int i) (.int j) h=.ok (.bl (decide (j<=i))) h:=(rfl)
@[simp]theorem Wh{i j:Str}:Wf (.str i) (.str j) h=.ok (.bl (!decide (i.cps.toList<j.cps.toList))) h:=(rfl)
end
end L2
namespace L2
section
variable{C:MC}{k:Nat}{X:Cx}{ke ve:uc}{mk mv:Me}{pos:Pos}
def putD(x y:PV)(n:Nat)(h:PH):Rs PV:=if x.isKt=true then(match bC h n with
 |some kvs=>if kvs.length<bp then .ok (.ref n) (h.set n (.dD (kA kvs x y))) else .bad
 |none=>.bad) else .bad
def TR(mk mv:Me):Me:=λδ h=>(mk δ (h++[.dK []])).bind λx h2=>(mv δ h2).bind λy h3=>putD x y h.length h3
end
section
def IE{h:PH}{kvs:ue (PV×PV)}(e:bC h n=a_ kvs)(hk:(PV.tup xs).ky 6=true)(hl:kvs.length<16777216):oC (.ref n) (.tup xs) z h=a_ (h.set n (.dD (kA kvs (.tup xs) z))):=by
 show Gg (.ref n) (.tup xs) z h=_
 exact TM e hk hl
@[simp]theorem US{h:PH}:TR mk mv δ h=(mk δ (h++[.dK []])).bind λx h2=>(mv δ h2).bind λy h3=>putD x y h.length h3:=(rfl)
end
end L2
namespace L2
open PySem.SeqAt
section
variable{prog:ub}{w:ua}{A:t9}{E:f_ 0}{s:tw}
def JT{Q:j_ Int}(h:∀n tk,Q n { s with toks:=tk}):m_ prog w A (pyHash .none) Q E s:=by
 have hT:s.TypeIs .none "NoneType" := typeIs_none s;unfold pyHash;unfold pyHashByItsType;have hv:[cx].any Value.onHeap=false:=rfl;refine aa ?_;rw[cRoomFor,if_neg (by rw[hv];exact cu)];refine af ?_;refine aa (km hT qr.lookup ?_)
 show wpAny _ _ (if((a_ (sx "NoneType.__hash__"):uf s_) == a_ cx)=true then _ else _) Q E s
 rw[if_neg (show ¬ _ from by rw[beq_builtin_none];decide)]
 refine aa (km hT qr.lookup (show wpAny _ _ (callSpecialIfBoundUnlessNone? cx "__hash__" _ >>= _) Q E s from ?_))
 refine aa (wpAny_callSpecialIfBoundUnlessNone?_slot hT qr (ir qr hT F.entry_NoneType_hash ?_ (F.args_NoneType_hash_1 _)));unfold Builtin.«NoneType.__hash__»;refine aa (m:=slotArgs "__hash__" 0 _) (wpAny_of_eq (a:=(cx,[])) (by rfl) ?_);refine wpAny_ret_mkInt ?_
 show wpAny _ _ (if(decide (-(2:Int) ^ 63<=4238894112)&&decide ((4238894112:Int)<2 ^ 63))=true then _ else _) Q E _
 rw[if_pos nofun];exact af (h _ _)
variable{K:Type}[DecidableEq K]{knd:HeapKind prog w K}
def JU{stored:ue s_}{Q:j_ Bool}(hst:∀v∈stored,∃k' b,v=.ref b/\knd.is s.heap k' b)(h:Q false s):m_ prog w A (tableMayTell .none stored) Q E s:=by
 unfold tableMayTell;split
 ·exact af h
 ·refine aa (wpAny_of_eq (a:=true) (by rfl) ?_);simp only[Bool.not_true,d5,if_false];refine aa ?_;refine rg _ (λrest r s'=>s'=s/\r=(b_,())/\∀v∈rest,∃k' b,v=.ref b/\knd.is s.heap k' b) _ ?_ ?_ _ _ ⟨rfl,rfl,hst⟩
  ·rintro x rest r s' ⟨rfl,rfl,hr⟩;let⟨k',b,rfl,hb⟩:=hr x aw;refine aa (knd.quiet hb ?_);simp only[Bool.not_true,d5,if_false];exact af ⟨rfl,rfl,λv hv=>hr v (aj _ hv)⟩
  ·rintro r s' ⟨rfl,rfl,_⟩;exact af h
def find_none{d:t7}{o:Obj}{es:Array n9}{ep:Nat}{xs:ue (K×t7×s_)}{hN:Int}{Q:uf Nat->tw->Prop}(ho:s.heap.get? d=a_ o)(hd:o.data=.dict es ep)(he:es.toList=xs.map (entryOfKey knd))(his:∀x∈xs,knd.is s.heap x.1 x.2.1)
  (heq:∀x∈xs,EqAt A s (.ref x.2.1) .none false) (h:Q b_ s):m_ prog w A (dictFind d .none hN) Q E s:=by
 have hmem:∀e∈es,∃x∈xs,e=entryOfKey knd x:=by intro e hin;have:e∈xs.map (entryOfKey knd):=he▸Array.mem_toList_iff.mpr hin;let⟨x,hx,rfl⟩:=bz.mp this;exact⟨x,hx,rfl⟩
 have hst:∀v∈(placesWithHash es.size (λi=>es[i]?.map (·.hash)) hN).filterMap (λi=>es[i]?.map (·.key)),∃k' b,v=.ref b/\knd.is s.heap k' b:=by
  intro v hv;let⟨i,_,hi⟩:=ph.mp hv;cases hei:es[i]? with
  |none=>rw[hei]at hi;cases hi
  |some e=>
   rw[hei]at hi;obtain rfl:e.key=v:=by simpa using hi
   let⟨x,hx,rfl⟩:=hmem e (Array.mem_of_getElem? hei);exact⟨x.1,x.2.1,rfl,his x hx⟩
 have hpl:∀i∈placesWithHash es.size (λi=>es[i]?.map (·.hash)) hN,∃e,es[i]?=a_ e/\e.hash=hN:=by
  intro i hi;unfold placesWithHash at hi;let⟨_,h2⟩:=jt.mp hi;dsimp only at h2;cases hei:es[i]? with
  |none=>rw[hei]at h2;simp at h2
  |some e=>rw[hei]at h2;exact⟨e,rfl,l_ h2⟩
 unfold dictFind;refine fo ?_;refine aa (oh ho hd ?_);dsimp only;generalize hP:placesWithHash es.size (λi=>es[i]?.map (·.hash)) hN=P at hst hpl;cases P with
 |nil=>rw[if_pos (by rfl)];unfold dictWalkPlain;exact aa (af (af h))
 |cons p0 P0=>
  have hno:¬ ((cx::((p0::P0).filterMap λi=>es[i]?.map (·.key))).all carriedByValue)=true:=by intro z;let⟨e,e1,e2⟩:=hpl p0 aw;have hm:e.key∈(p0::P0).filterMap (λi=>es[i]?.map (·.key)):=ph.mpr ⟨p0,aw,by rw[e1];rfl⟩;let⟨k',b,hb,_⟩:=hst _ hm;have:=ay.mp z _ (aj _ hm);rw[hb]at this;cases this
  rw[if_neg hno];by_cases hone:(((p0::P0).filterMap λi=>es[i]?.map (·.key)) == [cx])=true <;>
  (first|rw[if_pos hone]|rw[if_neg hone]) <;> (first|refine aa (af ?_)|refine aa (JU hst ?_)) <;> (
   rw[if_neg (by simp)];refine aa ?_;refine rg _ (λrest b s'=>s'=s/\b=(b_,b_)/\∀i∈rest,∃e,es[i]?=a_ e/\e.hash=hN) _ ?_ ?_ _ _ ⟨rfl,rfl,hpl⟩
   ·rintro x rest b s' ⟨rfl,rfl,hr⟩;let⟨e,e1,e2⟩:=hr x aw;let⟨y,hy,rfl⟩:=hmem e (Array.mem_of_getElem? e1);rw[e1];dsimp only;rw[if_pos (by rw[e2];simp)];refine aa (wpAny_dictEpoch ho hd (aa (heq y hy _ _ _ _ (aa (wpAny_dictEpoch ho hd ?_)))))
    show wpAny _ _ (if(ep != ep)=true then _ else _) _ E _
    rw[if_neg (by simp)];simp only[d5,if_false];refine aa (mq ?_)
    first|rw[if_neg (by simp)]|skip
    first
     |exact af ⟨rfl,rfl,λi hi=>hr i (aj _ hi)⟩
     |exact aa (af (af ⟨rfl,rfl,λi hi=>hr i (aj _ hi)⟩))
   ·rintro b s' ⟨rfl,rfl,_⟩;exact af h)
def get_none{Q:uf s_->tw->Prop}(hm:s.heap.DictOfH knd d xs)(heq:∀tk,∀x∈xs,EqAt A { s with toks:=tk} (.ref x.2.1) .none false)(h:∀tk,Q b_ { s with toks:=tk}):
  m_ prog w A (dictGet d .none) Q E s:=by
 let⟨o,es,ep,ho,hc,hd,he,his,hn⟩:=hm;unfold dictGet;refine fo ?_;refine aa (JT λn tk=>aa (find_none (s:={ s with toks:=tk}) ho hd he his (heq tk) ?_));exact af (h tk)
def PM{Q:f_ 0}(hd:(d == j7)=false)(hm:s.heap.DictOfH knd d xs)(heq:∀tk,∀x∈xs,EqAt A.in1 { s with toks:=tk} (.ref x.2.1) .none false)(h:∀tk,Q (.bool false) { s with toks:=tk}):
  m_ prog w A (d6 .In .none (.ref d)) Q E s:=by
 show wpAny _ _ (do return .bool (<-contains (.ref d) .none)) Q E s
 refine aa ?_
 unfold contains
 try with_reducible refine fo ?_
 refine aa (km hm.typeIs m8.lookup ?_)
 show wpAny _ _ (if(a_ (sx "dict.__contains__") == a_ cx)=true then _ else _) _ E s
 rw[if_neg (by rw[beq_builtin_none];exact cu)]
 refine aa (wpAny_callSpecialUnlessNone?_slot (name:=gf "__contains__") hm.typeIs m8
  (ir m8 hm.typeIs entry_dict_contains ?_ (args_dict_contains _ _)))
 show wpAny _ _ (dictGet d .none >>= _) _ _ s
 refine aa (get_none hm heq λtk=>?_)
 show wpAny _ _ (Builtin.Dict.pendingKey? d .none >>= _) _ _ _
 exact aa (wpAny_pendingKey_other hd (af ⟨_,rfl,qm (af (h tk))⟩))
def Gu{Q:f_ 0}(hd:(d == j7)=false)(hm:s.heap.DictOfH knd d xs)(heq:∀tk,∀x∈xs,EqAt A.in1 { s with toks:=tk} (.ref x.2.1) .none false)(h:∀tk,Q (.bool true) { s with toks:=tk}):
  m_ prog w A (d6 .NotIn .none (.ref d)) Q E s:=by
 show wpAny _ _ (do return .bool (!(<-contains (.ref d) .none))) Q E s
 refine aa ?_
 unfold contains
 try with_reducible refine fo ?_
 refine aa (km hm.typeIs m8.lookup ?_)
 show wpAny _ _ (if(a_ (sx "dict.__contains__") == a_ cx)=true then _ else _) _ E s
 rw[if_neg (by rw[beq_builtin_none];exact cu)]
 refine aa (wpAny_callSpecialUnlessNone?_slot (name:=gf "__contains__") hm.typeIs m8
  (ir m8 hm.typeIs entry_dict_contains ?_ (args_dict_contains _ _)))
 show wpAny _ _ (dictGet d .none >>= _) _ _ s
 refine aa (get_none hm heq λtk=>?_)
 show wpAny _ _ (Builtin.Dict.pendingKey? d .none >>= _) _ _ _
 exact aa (wpAny_pendingKey_other hd (af ⟨_,rfl,qm (af (h tk))⟩))
end
section
variable{C:MC}{k:Nat}{X:Cx}
def Wi:∀(n:Nat)(p:PV),p.ky n=true->p.pl n=true:=by
 intro n
 induction n with
 |zero=>intro p h;cases p <;> first|rfl|cases h
 |succ n ih=>
  intro p h;cases p with
  |tup xs=>
   show xs.all (PV.pl n)=true
   rw[ay];exact λy hy=>ih y (ay.mp (show xs.all (PV.ky n)=true from h) y hy)
  |_=>first|rfl|cases h
theorem zA{pins:g_ 0}{σ:St}{H:Hp}{s:tw}{φ:ue t7}{A:t9}(I:Inv X pins σ H s)(hK:X.K=C.K)(hu:A.units+6<cLine):∀{kvs:ue (PV×PV)}{ks:ue (PV×t7×V)}{xs:ue (PV×t7×s_)},RKd C φ H kvs ks->pP ks xs->(∀q∈kvs,q.1.isKt=true)->∀x∈xs,EqAt A s (.ref x.2.1) .none false
 |[],[],[],_,_,_=>λx hx=>nomatch hx
 |p::kvs,q::ks,y::xs,r,rx,hk=>by
  cases r with
  |cons h1 t1=>
   cases rx with
   |cons h2 t2=>
    intro x hx;rcases bx.mp hx with rfl|hx
    ·let⟨d,hd1,hd2⟩:=jD 6 _ (Wi 6 _ h1.2.1);have hr:Rep X.K H d (.ref q.2.1):=by rw[hK];exact h1.2.2.1.rep hd1
     have hdt:∃ds,d=.tup ds:=by
      have:=hk p aw;cases e:p.1 with
      |tup zs=>rw[e]at hd1;let⟨ds,_,rfl⟩:=bU hd1;exact⟨ds,rfl⟩
      |_=>rw[e]at this;cases this
     let⟨ds,rfl⟩:=hdt;have:=Lw I (n:=6) (d:=.tup ds) (e:=.non) (A:=A) (x:=.ref q.2.1) (y:=.non) (v:=.ref x.2.1) (u:=.none) hd2 hu hr rfl (by rw[h2.2.1];rfl) rfl;simpa[eqD] using this
    ·exact zA I hK hu t1 t2 (λz hz=>hk z (aj _ hz)) x hx
 |[],_::_,_,r,_,_=>nomatch r
 |_::_,[],_,r,_,_=>nomatch r
 |_,[],_::_,_,rx,_=>nomatch rx
 |_,_::_,[],_,rx,_=>nomatch rx
def fN:PV->PV->PH->Rs PV:=λx y h=>match x,y with
 |.non,.ref n=>match bC h n with
  |some kvs=>if kvs.all (λq=>q.1.isKt) then .ok (.bl false) h else .bad
  |none=>Gf x y h
 |_,_=>Gf x y h
def cD:PV->PV->PH->Rs PV:=λx y h=>match x,y with
 |.non,.ref n=>match bC h n with
  |some kvs=>if kvs.all (λq=>q.1.isKt) then .ok (.bl true) h else .bad
  |none=>fY x y h
 |_,_=>fY x y h
def Wj(C:MC):V->V->Hp->(Hp->Prop)->Prop:=λx y H R=>∃φ h n a kvs,RH C φ H h/\x=.non/\y=.ref a/\φ[n]?=a_ a/\bC h n=a_ kvs/\(∀q∈kvs,q.1.isKt=true)/\R H
def TU(c:Cxt C k X):OpR X (d6 .In) (λx y H Q=>Wj C x y H λH=>Q (.bl false) H):=λpins s σ H x y v u Q I rx ry h=>by
 let⟨φ,h,n,a,kvs,rh,rfl,rfl,ha,ht,hk,q⟩:=h;cases rx
 cases ry
 let⟨⟨ks,xs,r,rx',hz,hm,dd⟩,_⟩:=sE I c.K c.w rh ha ht;have hu:X.A.in1.units+6<cLine:=by have:=c.hu64;show X.A.units+1+6<cLine;omega
 exact PM hm dd (λtk=>zA (I.tok tk) c.K hu r rx' hk) λtk=>⟨.bl false,H,I.tok _,rfl,q⟩
def JV(c:Cxt C k X):OpR X (d6 .NotIn) (λx y H Q=>Wj C x y H λH=>Q (.bl true) H):=λpins s σ H x y v u Q I rx ry h=>by
 let⟨φ,h,n,a,kvs,rh,rfl,rfl,ha,ht,hk,q⟩:=h;cases rx
 cases ry
 let⟨⟨ks,xs,r,rx',hz,hm,dd⟩,_⟩:=sE I c.K c.w rh ha ht;have hu:X.A.in1.units+6<cLine:=by have:=c.hu64;show X.A.units+1+6<cLine;omega
 exact Gu hm dd (λtk=>zA (I.tok tk) c.K hu r rx' hk) λtk=>⟨.bl true,H,I.tok _,rfl,q⟩
def qL:OpS C k X (d6 .In) fN:=λc=>((VX c).or (TU c)).imp λx y H Q h=>by
 let⟨φ,h,p,q,rh,rx,ry,po⟩:=h;unfold fN at po;split at po
 ·rename_i n;split at po
  ·rename_i kvs ht;split at po
   ·rename_i hk;let⟨a,rfl,ha⟩:=ry;exact .inr ⟨φ,h,n,a,kvs,rh,rx,rfl,ha,ht,ay.mp hk,po.val rh rfl⟩
   ·exact po.elim
  ·exact .inl ⟨φ,h,_,_,rh,rx,ry,po⟩
 ·exact .inl ⟨φ,h,_,_,rh,rx,ry,po⟩
def uM:OpS C k X (d6 .NotIn) cD:=λc=>((M9 c).or (JV c)).imp λx y H Q h=>by
 let⟨φ,h,p,q,rh,rx,ry,po⟩:=h;unfold cD at po;split at po
 ·rename_i n;split at po
  ·rename_i kvs ht;split at po
   ·rename_i hk;let⟨a,rfl,ha⟩:=ry;exact .inr ⟨φ,h,n,a,kvs,rh,rx,rfl,ha,ht,ay.mp hk,po.val rh rfl⟩
   ·exact po.elim
  ·exact .inl ⟨φ,h,_,_,rh,rx,ry,po⟩
 ·exact .inl ⟨φ,h,_,_,rh,rx,ry,po⟩
variable{h:PH}
@[simp]theorem uN:fN (.tup xs) y h=Gf (.tup xs) y h:=by unfold fN;rfl
@[simp]theorem sI:cD (.tup xs) y h=fY (.tup xs) y h:=by unfold cD;rfl
def JW{kvs:ue (PV×PV)}(e:bC h n=a_ kvs)(hk:kvs.all (λq=>q.1.isKt)=true):fN .non (.ref n) h=.ok (.bl false) h:=by simp[fN,e,hk]
end
end L2
namespace L2
def Wl:HO->Prop
 |.tup _=>False
 |.own _=>False
 |.tbl _=>False
 |_=>True
def uO:MO->uf (ue PV)
 |.dK kvs=>a_ (kvs.map λkv=>.tup [kP kv.1,kv.2])
 |.dD kvs=>a_ (kvs.map λkv=>.tup [kv.1,kv.2])
 |_=>b_
def Wm:MO->uf (ue PV)
 |.dK kvs=>a_ (kvs.map λkv=>kP kv.1)
 |.dD kvs=>a_ (kvs.map (·.1))
 |_=>b_
def Mz:uf MO->Bool
 |some (.dK _)=>true
 |some (.dD _)=>true
 |_=>false
section
variable{C:MC}{k:Nat}{X:Cx}{pins:g_ 0}{σ:St}{H:Hp}{s:tw}{φ:ue t7}
def TV{k:Key}{v:s_}(h:xP k v=true):RelV (kV k) v:=by
 rcases cF h with⟨i,t,rfl,rfl⟩|⟨x,t,rfl,rfl⟩
 ·exact⟨t,rfl⟩
 ·exact⟨t,rfl⟩
theorem uP{α β:Type}{F:α->β->Prop}:∀{l:ue α}{m:ue β},Paired F l m->∀{i:Nat}{a:α},l[i]?=a_ a->∃b,m[i]?=a_ b/\F a b
 |_,_,.nil,i,a,e=>by simp at e
 |_,_,.cons (a:=x) (b:=y) r t,0,a,e=>by
  have:x=a:=by simpa using e
  subst this;exact⟨y,rfl,r⟩
 |_,_,.cons r t,i+1,a,e=>by
  let⟨b,h1,h2⟩:=uP t (i:=i) (a:=a) (l_ e);exact⟨b,l_ h1,h2⟩
theorem qM{α β:Type}{F:α->β->Prop}:∀{l:ue α}{m:ue β},Paired F l m->∀{i:Nat}{b:β},m[i]?=a_ b->∃a,l[i]?=a_ a/\F a b
 |_,_,.nil,i,a,e=>by simp at e
 |_,_,.cons (a:=x) (b:=y) r t,0,b,e=>by
  have:y=b:=by simpa using e
  subst this;exact⟨x,rfl,r⟩
 |_,_,.cons r t,i+1,b,e=>by
  let⟨a,h1,h2⟩:=qM t (i:=i) (b:=b) (l_ e);exact⟨a,l_ h1,h2⟩
def IF(a:Key):RV C φ H (kP a) (kV a):=by cases a <;> rfl
def MA{kvs:ue (Key×PV)}{ks:ue (Key×V)}(rk:RKv C φ H kvs ks):RVs C φ H (kvs.map λkv=>kP kv.1) ((ks.map λq=>(kV q.1,q.2)).map (·.1)):=by
 unfold RKv at rk
 induction rk with
 |nil=>trivial
 | @cons p q ps qs e t ih=>exact⟨by show RV C φ H (kP p.1) (kV q.1);rw[e.1];exact IF q.1,ih⟩
def MB{kvs:ue (PV×PV)}{ks:ue (PV×t7×V)}(rk:RKd C φ H kvs ks):RVs C φ H (kvs.map (·.1)) ((ks.map λq=>(V.ref q.2.1,q.2.2)).map (·.1)):=by
 unfold RKd at rk
 induction rk with
 |nil=>trivial
 | @cons p q ps qs e t ih=>exact⟨e.2.2.1,ih⟩
structure XT(C:MC)(φ:ue t7)(H:Hp)(s:tw)(b:t7)(o:MO)(ks:ue (V×V))(u:HO)(oc:Obj)(es:Array n9)(ep:Nat):Prop where
 at':H b=some u
 nf:Wl u
 nz:∀o z,u≠.frz o z
 nt:DZ (some u)
 get:s.heap.get? b=some oc
 cls:oc.cls=.type "dict"
 data:oc.data=.dict es ep
 nsys:(b == j7)=false
 fz:∀φ' H',φ<+:φ'->H' b=some (.frz oc u)->Kp H H'->RO C φ' H' b (.fz o)
 len:ks.length=es.size
 ent:∀(i:Nat)(hi:i<es.size),∃kv,ks[i]?=some kv/\RelV kv.1 es[i].key/\RelV kv.2 es[i].val
 keys:∀xs,Wm o=some xs->RVs C φ H xs (ks.map (·.1))
 items:∀xs,uO o=some xs->xs.length=ks.length/\∀(i:Nat) p,xs[i]?=some p->∃p1 p2 kv,p=.tup [p1,p2]/\ks[i]?=some kv/\RV C φ H p1 kv.1/\RV C φ H p2 kv.2
def RU{h:PH}{d:Nat}{b:t7}{o:MO}(c:Cxt C k X)(I:Inv X pins σ H s)(rh:RH C φ H h)(hb:φ[d]?=a_ b)(ho:h[d]?=a_ o)(hd:Mz (a_ o)=true):∃ks u oc es ep,XT C φ H s b o ks u oc es ep:=by
 cases o with
 |dK kvs=>
  let⟨ks,hH,rk⟩:=rh.at' d b _ hb ho;let⟨z,hm,vs,rel,dd⟩:=HM I.hok hH;let⟨oc,es,ep,g1,g2,g3,g4,g5,g6⟩:=dd;have l1:ks.length=vs.length:=ft rel;have l2:es.size=vs.length:=by have:=Gk g5;have:=congrArg List.length this;simpa using this
  refine⟨ks.map λq=>(kV q.1,q.2),_,oc,es,ep,hH,trivial,(λ_ _ e=>by cases e),trivial,g1,g2.1,g3,hm,λφ' H' p e t=>⟨oc,ks,e,rk.mono p t⟩,by rw[aq,l1,l2],λi hi=>?_,λxs hx=>?_,λxs hx=>?_⟩
  ·have hv:vs[i]?=a_ (vs[i]'⋯):=by simp[show i<vs.length by omega]
   have he:es.toList[i]?=a_ es[i]:=by simp[hi]
   let⟨q1,q2⟩:=g5.get? he hv;let⟨kv,ekv,rkv⟩:=qM rel hv;refine⟨(kV kv.1,kv.2),by rw[ar,ekv];rfl,?_,?_⟩
   ·show RelV (kV kv.1) es[i].key
    rw[rkv.1];exact TV q1
   ·show RelV kv.2 es[i].val
    rw[q2];exact rkv.2
  ·cases hx
   exact MA rk
  ·cases hx
   have lk:kvs.length=ks.length:=ft rk;refine⟨by rw[aq,aq,lk],λi p e=>?_⟩;rw[ar]at e;let⟨kv,e1,rfl⟩:=br.mp e;let⟨q,e2,r2⟩:=uP rk e1;exact⟨_,_,(kV q.1,q.2),rfl,by rw[ar,e2];rfl,by show RV C φ H (kP kv.1) (kV q.1);rw[r2.1];exact IF q.1,r2.2⟩
 |dD kvs=>
  let⟨ks,hH,rk⟩:=rh.at' d b _ hb ho;have hO:dS X.prog X.w H s.heap b (dDO C.w b ks):=I.hok b _ hH;let⟨⟨hz,hm,xs,rx,oc,es,ep,g1,g2,g3,g4,g5⟩,_⟩:=hO;have l1:ks.length=xs.length:=ft rx;have l2:es.size=xs.length:=by have:=congrArg List.length g4;simpa using this
  refine⟨ks.map λq=>(V.ref q.2.1,q.2.2),_,oc,es,ep,hH,trivial,(λ_ _ e=>by cases e),trivial,g1,g2.1,g3,hm,λφ' H' p e t=>⟨oc,ks,e,rk.mono p t⟩,by rw[aq,l1,l2],λi hi=>?_,λxs hx=>?_,λxs hx=>?_⟩
  ·have hv:xs[i]?=a_ (xs[i]'⋯):=by simp[show i<xs.length by omega]
   have he:es.toList[i]?=a_ es[i]:=by simp[hi]
   rw[g4,ar,hv]at he;have he':=cy he;let⟨kv,ekv,rkv⟩:=qM rx hv;refine⟨(V.ref kv.2.1,kv.2.2),by rw[ar,ekv];rfl,?_,?_⟩
   ·show RelV (V.ref kv.2.1) es[i].key
    rw[<-he',rkv.2.1];rfl
   ·show RelV kv.2.2 es[i].val
    rw[<-he'];exact rkv.2.2
  ·cases hx
   exact MB rk
  ·cases hx
   have lk:kvs.length=ks.length:=ft rk;refine⟨by rw[aq,aq,lk],λi p e=>?_⟩;rw[ar]at e;let⟨kv,e1,rfl⟩:=br.mp e;let⟨q,e2,r2⟩:=uP rk e1;exact⟨_,_,(V.ref q.2.1,q.2.2),rfl,by rw[ar,e2];rfl,r2.2.2.1,r2.2.2.2⟩
 |_=>cases hd
def JX(h:uO o=a_ xs):Mz (a_ o)=true:=by cases o <;> first|rfl|cases h
def pA:PV->ue PV->PH->Rs PV:=λx ps h=>match x,ps with
 |.ref n,[]=>if Mz h[n]?=true then .ok (.ref h.length) (h++[.vw 0 n]) else .bad
 |_,_=>.bad
def MD:MtG C k X "dict" nD "dict.items" pA:=λc=>⟨λpins s σ H x xs v us Q I rx rs h=>by
 let⟨φ,h,p,ps,rh,rp,rps,po⟩:=h;unfold pA at po;split at po
 ·rename_i n;split at po
  ·rename_i hd;let⟨a,rfl,ha⟩:=rp;have:xs=[]:=by cases xs <;> first|rfl|exact rps.elim
   subst this;cases rx
   cases rs
   cases ho:h[n]? with
   |none=>rw[ho]at hd;cases hd
   |some o=>
    rw[ho]at hd;let⟨ks,u,oc,es,ep,W⟩:=RU c I rh ha ho hd;have hT:s.TypeIs (.ref a) "dict" := ⟨oc,W.get,W.cls⟩;refine call_meetsIn PySem.F.slot_dict_items hT PySem.F.entry_dict_items (PySem.F.args_dict_items_1 _) (E5 a W.nsys) ⟨hT,?_⟩;have fr:H (e_ s)=b_:=I.fresh;refine⟨.ref (e_ s),_,I.laid (t':=s.toks) (o:=LB 0 (e_ s) a) (λb u e=>ae _ e) (bq _) ?_,rfl,?_⟩
    ·exact⟨⟨_,bo _ rfl,rfl,rfl⟩,⟨_,bo _ rfl⟩,λh1 h2 ⟨o,e,p⟩ k=>⟨o,k o e,p⟩⟩
    ·exact po (φ++[(e_ s)]) (.ref _) _ (fe _ _) (Kp.new fr) (rh.new fr ⟨a,jP (fe _ _) ha,bE⟩) ⟨_,rfl,by rw[<-rh.len];simp⟩
  ·exact po.elim
 ·exact po.elim,yT c⟩
end
section
variable{h h1:PH}{δ:Ev}
def Gv(e:h[n]?=a_ o)(hd:Mz (a_ o)=true):pA (.ref n) [] h=.ok (.ref h.length) (h++[.vw 0 n]):=by simp only[pA,e,hd,if_true]
end
end L2
namespace L2
open PySem.SeqAt PySem.W
def hdk:PV->uf Nat
 |.tup (.int _::_)=>a_ 0
 |.tup (.str _::_)=>a_ 1
 |.tup (.tup _::_)=>a_ 2
 |_=>b_
def ltV(x y:PV):Bool:=match x.d,y.d with
 |some d,a_ e=>ltD d e == a_ true
 |_,_=>false
structure OkV(b:Bool)(ks:ue PV):Prop where
 dat:∀x∈ks,∃xs ds,x=.tup xs/\PV.ds xs=some ds/\D.depths ds<=40
 hd:∃t,((t == 2)=!b)/\t<=2/\∀x∈ks,hdk x=some t
 can:∀x∈ks,∀y∈ks,∃d e c,x.d=some d/\y.d=some e/\ltD d e=some c
 tr:∀x∈ks,∀y∈ks,∀z∈ks,ltV y x=false->ltV z y=false->ltV z x=false
 as:∀x∈ks,∀y∈ks,ltV x y=true->ltV y x=false
 tot:∀x∈ks,∀y∈ks,ltV x y=false->ltV y x=false->x=y
end L2
namespace L2
open PySem.SeqAt
structure Mk0(K:ag)(C:t7):Prop where
 makes:PySem.W.makesIn K C=true
 init:fw K (.ref C) "__init__" = some (some (.builtin "object.__init__"))
 kp:dg K (.ref C)=true
def TX(cn:Str):Me:=λδ h=>.ok (.ref h.length) (h++[.ins cn []])
section
@[simp]theorem UT{h:PH}:TX cn δ h=.ok (.ref h.length) (h++[.ins cn []]):=(rfl)
end
end L2
namespace L2
open PySem.SeqAt PySem.W
open Classical in
noncomputable def Bi(b:Bool)(m:Nat)(ks ys:ue PV):uf (ue PV):=if ks.length<1000000/\ks.length=ys.length/\OkN m ks/\(∀a∈ks.zip ys,∀c∈ks.zip ys,a.1=c.1->a.2=c.2) then a_ ((PySem.W.katRev b (cW jv (ks.zip ys))).map (·.2)) else b_
noncomputable def fZ(f:Fn)(b:Bool)(kb:Nat)(ys:ue PV):ue PV->ue PV->PH->Rs PV
 |[],ks,h=>match Bi b kb ks ys with
  |some zs=>.ok (.ref h.length) (h++[.lst zs])
  |none=>.bad
 |x::xs,ks,h=>(f [x] h).bind λk h1=>fZ f b kb ys xs (ks++[k]) h1
noncomputable def IG(f:Fn)(b:Bool)(kb:Nat)(x:PV)(h:PH):Rs PV:=match Mn x h with
 |some ys=>if ys.length<1000000 then fZ f b kb ys ys [] h else .bad
 |none=>.bad
noncomputable def PN(f:Fn)(b:Bool)(kb:Nat)(me:Me):Me:=λδ h=>(me δ h).bind λx h1=>IG f b kb x h1
section
variable{C:MC}{k:Nat}{X:Cx}
def ME(C:MC)(X:Cx)(pins:g_ 0)(σ:St)(φ:ue t7)(H:Hp)(f:Fn)(b:Bool)(kb:Nat)(ys:ue PV)(Q:VK)(a z:t7)(kS:t7)(e1:Nat)(ks:ue s_)(e:Nat)(s':tw):Prop:=z<kS/\∃H' φ' h' zs ps,Inv X (pins++[(kS,seqObj "list" ks.toArray e),(a,seqObj "list" #[] e1)]) σ H' s'/\φ<+:φ'/\Kp H H'/\RH C φ' H' h'/\aR zs ks/\RVs C φ' H' ps zs/\post C φ' H' (fZ f b kb ys (ys.drop ks.length) ps h') Q
section
variable{x:Str}{st:ud}{q:t7}{fd:e7}{pn:ue Str}{j:Nat}{f:Fn}
def JY{pins:g_ 0}{σ:St}{φ:ue t7}{H:Hp}{b:Bool}{kb:Nat}{ys:ue PV}{us:ue V}{its:ue s_}{Q:VK}{a:t7}(c:Cxt C k X)(D:Def C.K X.mg x st q fd pn)(G:bA X.prog X.w C.K X.mg X.base CX0 j q fd pn (spM C 1 f))(hj:j+2<=k)
  (ry:RVs C φ H ys us) (rv:aR us its) {A':t9} (eA:A'=X.A.in1.in1) (fr:∀kS,a<=kS->X.s₀.heap.objs.size<=kS/\kS≠X.env.locals/\(∀x c,X.env.cells.lookup x=a_ c->c≠kS)/\(∀p∈X.pn++pins,p.1≠kS)/\kS∉X.fs)
  (kS:t7) (e1:Nat) (ks:ue s_) (e:Nat) (s':tw) (y:s_) (hy:its[ks.length]?=a_ y) (hJ:ME C X pins σ φ H f b kb ys Q a a kS e1 ks e s'):
  wpAny (h_ X) A' (call (.ref q) [y]) (λv s''=>s''.heap.get? kS=a_ (seqObj "list" ks.toArray e)/\∀(h':t_) e',mx kS s''.heap h'->h'.get? kS=a_ (seqObj "list" (ks++[v]).toArray e')->ME C X pins σ φ H f b kb ys Q a a kS e1 (ks++[v]) e' { s'' with heap:=h'}) (λ_ _=>False) s':=by
 subst eA;let⟨hz,H',φ',h',zs,ps,I,pp,tt,rh,rz,rp,po⟩:=hJ;have hlt:ks.length<its.length:=(ab.mp hy).1;have hlu:us.length=its.length:=rv.length;have hly:ys.length=us.length:=ry.length;have gy:ys[ks.length]?=a_ (ys[ks.length]'⋯):=by simp
 let⟨u,hu,ru⟩:=ry.at gy;let⟨y',hy',ryv⟩:=rv.get hu;rw[hy]at hy';cases hy'
 have hd:ys.drop ks.length=ys[ks.length]'⋯::ys.drop (ks.length+1):=drop_cons gy;rw[hd]at po;have e1':=c.K;have G':bA X.prog X.w X.K X.mg X.base CX0 j q fd pn (spM C 1 f):=by rw[e1'];exact G
 have D':Def X.K X.mg x st q fd pn:=by rw[e1'];exact D
 have sp1:spM C 1 f [u] H' (λv H2=>∃φ2 p h2,φ'<+:φ2/\Kp H' H2/\RH C φ2 H2 h2/\RV C φ2 H2 p v/\post C φ2 H2 (fZ f b kb ys (ys.drop (ks.length+1)) (ps++[p]) h2) Q) E0:=⟨φ',h',[ys[ks.length]'⋯],rh,⟨ru.mono pp tt,trivial⟩,rfl,post.bind po⟩;have hl:([y]:ue s_).length=pn.length:=G'.len _ _ _ _ sp1;refine wpAny_call (codeAny_mono (G'.run X.A.in1.in1 X.stack s' H' ⟨[y],[]⟩ [y] [u] _ E0 ((c.room.mono hj).in1.in1) I.env0.in1.in1 (by
  have:=D'.bd s' [y] I.kIn (l_ hl)
  simpa using this) (.cons ryv .nil) sp1) λr s2 hq=>?_)
 cases r with
 |error e=>exact hq.elim
 |ok fl=>
  cases fl with
  |next=>exact j8 hq
  |brk=>exact j8 hq
  |cont=>exact j8 hq
  |ret v=>
   let⟨x2,H2,I2,rx2,φ2,p2,h2,pp2,tt2,rh2,rp2,po2⟩:=I.after hq;have gk:=I2.pin (kS,seqObj "list" ks.toArray e) (ah _ (ah _ aw));have ga:=I2.pin (a,seqObj "list" #[] e1) (ah _ (ah _ (aj _ aw)));refine⟨gk.1,λg e' sb he'=>?_⟩;have fk:=fr kS (oi hz);have nak:a≠kS:=bu hz;have I3:Inv X (pins++[(a,seqObj "list" #[] e1)]) σ H2 s2:=I2.pins_of λp hp=>(ai.mp hp).elim (λz=>I2.pin p (ah _ (b0 _ z))) λz=>by rw[cw.mp z];exact ga
   have I4:=I3.turned (t':=s2.toks) (it:=kS) (h':=g) (λb' o' hb hq=>(sb.2 b' hb).trans hq) gk.2.1 fk.2.1 (.inr fk.1) fk.2.2.1 (λp hp=>by
    rcases ai.mp hp with hp|hp
    ·exact fk.2.2.2.1 p (b0 _ hp)
    ·rcases ai.mp hp with hp|hp
     ·exact fk.2.2.2.1 p (ah _ hp)
     ·rw[cw.mp hp];exact nak)
   refine⟨hz,H2,φ2,h2,zs++[x2],ps++[p2],I4.pins_of λp hp=>?_,pp.trans pp2,tt.trans tt2,rh2,rz.append (.cons rx2 .nil),(rp.mono pp2 tt2).snoc rp2,?_⟩
   ·rcases ai.mp hp with hp|hp
    ·exact I4.pin p (ah _ (b0 _ hp))
    ·rcases bx.mp hp with rfl|hp
     ·exact⟨he',gk.2.1,fk.2.1,fk.2.2.2.2,oB⟩
     ·rw[cw.mp hp];exact I4.pin _ (ah _ (ah _ aw))
   ·rw[az];exact po2
def Er{kss:ue PV}{ys:ue PV}(hl:kss.length=ys.length)(ok:OkN kb kss)(cs:∀a∈kss.zip ys,∀c∈kss.zip ys,a.1=c.1->a.2=c.2){p:ue Nat}(hp:p.Perm (fg ys.length))(ho:p.Pairwise (λi j=>(if b then ltN (kss.getD i .non) (kss.getD j .non) else ltN (kss.getD j .non) (kss.getD i .non))=false)):p.map (λi=>ys.getD i .non)=(PySem.W.katRev b (cW jv (kss.zip ys))).map (·.2):=by
 let zs:=kss.zip ys;have hzl:zs.length=ys.length:=by show(kss.zip ys).length=_;simp[hl]
 have hin:∀i∈p,i<ys.length:=λi hi=>by simpa using hp.mem_iff.mp hi
 have eg:∀i,i<ys.length->zs.getD i (.non,.non)=(kss.getD i .non,ys.getD i .non):=λi hi=>by
  have h1:i<kss.length:=⋯;have h2:i<zs.length:=⋯;have h3:(kss.zip ys)[i]?=a_ (kss[i],ys[i]):=by rw[nq];exact⟨by simp[h1],by simp[hi]⟩
  show(kss.zip ys).getD i _=_
  simp[h1,hi,h3]
 have hpz:(p.map λi=>zs.getD i (.non,.non)).Perm zs:=B6 (by rw[hzl];exact hp);have hm:zs.map (·.1)=kss:=by
  show(kss.zip ys).map jv=kss
  exact List.map_fst_zip ⋯
 have hsz:∀y∈zs,y.1∈kss:=λy hy=>by rw[<-hm];exact bz.mpr ⟨y,hy,rfl⟩
 have inj:∀a∈zs,∀c∈zs,enc (jv a)=enc (jv c)->a=c:=λa ha c hc e=>by have e1:=ok.inj _ (hsz a ha) _ (hsz c hc) e;exact Prod.ext e1 (cs a ha c hc e1)
 have e2:p.map (λi=>ys.getD i .non)=(p.map λi=>zs.getD i (.non,.non)).map (·.2):=by rw[oj];exact o5 λi hi=>by show _=(zs.getD i _).2;rw[eg i (hin i hi)]
 rw[e2];have key:∀(R:Nat->Nat->Bool),p.Pairwise (λi j=>R i j=false)->(∀i j,i<ys.length->j<ys.length->R i j=ltN (zs.getD j (.non,.non)).1 (zs.getD i (.non,.non)).1)->(p.map λi=>zs.getD i (.non,.non)).Pairwise (λx y=>ltN y.1 x.1=false):=λR h1 h2=>by rw[i9];exact h1.imp_of_mem λ{i j} hi hj h=>by rw[<-h2 i j (hin i hi) (hin j hj)];exact h
 cases b with
 |false=>
  congr 1;refine oZ jv inj hpz (key (λi j=>ltN (kss.getD j .non) (kss.getD i .non)) ho λi j hi hj=>by rw[eg i hi,eg j hj])
 |true=>
  congr 1;have hr:(p.map λi=>zs.getD i (.non,.non)).reverse=cW jv zs:=by refine oZ jv inj ((i7 _).trans hpz) ?_;rw[i3,i9];exact ho.imp_of_mem λ{i j} hi hj h=>by rw[eg i (hin i hi),eg j (hin j hj)];exact h
  show _=(cW jv zs).reverse
  rw[<-hr,List.reverse_reverse]
end
end
section
variable{α:Type}
def PP{key emb:α->PV}{xs:ue α}(h1:xs.length<1000000)(ok:OkN m (xs.map key))(hc:∀a∈xs,∀c∈xs,key a=key c->emb a=emb c):∃os:ue α,os.Perm xs/\os.Pairwise (λa c=>ltN (key c) (key a)=false)/\Bi false m (xs.map key) (xs.map emb)=a_ (os.map emb):=by
 have ez:(xs.map key).zip (xs.map emb)=xs.map λx=>(key x,emb x):=by
  induction xs with
  |nil=>rfl
  |cons x xs ih=>simp only[dn,List.zip_cons_cons];rw[ih (by simp at h1;omega) ⟨ok.m3,λy hy=>ok.ky y (aj _ hy),λy hy=>ok.fk y (aj _ hy),λy hy z hz=>ok.lt y (aj _ hy) z (aj _ hz)⟩ (λa ha c hc'=>hc a (aj _ ha) c (aj _ hc'))]
 have insm:∀(x:α)(ys:ue α),yW jv (key x,emb x) (ys.map λy=>(key y,emb y))=(yW key x ys).map λy=>(key y,emb y):=λx ys=>by
  induction ys with
  |nil=>rfl
  |cons y ys ih=>
   show(if ltN (key y) (key x)=true then(key y,emb y)::yW jv (key x,emb x) (ys.map λy=>(key y,emb y)) else(key x,emb x)::(key y,emb y)::ys.map λy=>(key y,emb y))=(if ltN (key y) (key x)=true then y::yW key x ys else x::y::ys).map λy=>(key y,emb y)
   split
   ·rw[ih];rfl
   ·rfl
 have srt:∀ys:ue α,cW jv (ys.map λy=>(key y,emb y))=(cW key ys).map λy=>(key y,emb y):=λys=>by
  induction ys with
  |nil=>rfl
  |cons y ys ih=>
   show yW jv (key y,emb y) (cW jv (ys.map λy=>(key y,emb y)))=_
   rw[ih,insm];rfl
 refine⟨cW key xs,gL key xs,iP key xs,?_⟩;unfold Bi;rw[if_pos ⟨l_ h1,by simp,ok,λa ha c hc' e=>by rw[ez]at ha hc';let⟨x,hx,rfl⟩:=bz.mp ha;let⟨y,hy,rfl⟩:=bz.mp hc';exact hc x hx y hy e⟩,ez,srt]
 show a_ (((cW key xs).map λy=>(key y,emb y)).map Prod.snd)=_
 rw[oj];rfl
theorem IH{key emb:α->PV}{Q:PV->PH->Prop}:∀(r done:ue α)(h:PH),(∀d∈r,∀h(Q:PV->PH->Prop),(∀h',Ext h h'->Q (key d) h')->(f [emb d] h).W Q)->
  Bi false m ((done++r).map key) ys=a_ zs->(∀h',Ext h h'->Q (.ref h'.length) (h'++[.lst zs]))->(fZ f false m ys (r.map emb) (done.map key) h).W Q
 |[],done,h,_,hs,k=>by rw[dz]at hs;simp only[List.map_nil,fZ,hs,bZ];exact k h (Ext.refl h)
 |x::r,done,h,hf,hs,k=>by
  rw[dn];unfold fZ;rw[G8];refine hf x aw h _ λh1 x1=>?_;have e:done.map key++[key x]=(done++[x]).map key:=by simp
  rw[e];exact IH r (done++[x]) h1 (λd hd=>hf d (aj _ hd)) (by rw[ak];exact hs) λh' x2=>k h' (x1.trans x2)
end
section
variable{δ:Ev}{h:PH}{m:Me}
@[simp]theorem TY:PN f b n m δ h=(m δ h).bind λx h1=>IG f b n x h1:=(rfl)
end
end L2
namespace L2
open PySem.SeqAt
open PySem.AutoSeq1 (wpAny_loadPart')
open PySem.MeetsSeq PySem.MeetsSeq2 PySem.MeetsSeq3
section
variable{C:MC}{k:Nat}{X:Cx}
def XU:PV->PV->PH->Rs PV:=λx y h=>match x,y with
 |.tup xs,.tup ys=>ofB (if(PV.tup xs).d.all (λd=>decide (d.depth<=40)) then(LZ (.tup ys) (.tup xs)).map (!·) else b_) h
 |x,y=>vLe x y h
variable{h:PH}
@[simp]theorem Wn:XU (.int i) (.int j) h=.ok (.bl (decide (i<=j))) h:=(rfl)
end
end L2
namespace L2
open PySem.SeqAt PySem.W
theorem zB{κ β:Type}[DecidableEq κ]{k:κ}{p:β}:∀{xs:ue (κ×β)}{j:Nat},(xs.map (·.1)).Nodup->xs[j]?=a_ (k,p)->xs.eraseIdx j=xs.filter λx=>decide (x.1≠k)
 |[],j,_,h=>by simp at h
 |x::r,0,hn,h=>by
  simp only[List.getElem?_cons_zero,Option.some.injEq]at h;subst h;rw[dn,ip]at hn;rw[List.eraseIdx_cons_zero,List.filter_cons];simp only[ne_eq,not_true_eq_false,decide_false,d5,if_false]
  symm
  rw[o6];intro y hy;exact decide_eq_true λe=>hn.1 (bz.mpr ⟨y,hy,e⟩)
 |x::r,j+1,hn,h=>by rw[fu]at h;rw[dn,ip]at hn;have hx:¬ x.1=k:=λe=>hn.1 (e▸bz.mpr ⟨(k,p),cq h,rfl⟩);rw[List.eraseIdx_cons_succ,List.filter_cons,zB hn.2 h];simp[hx]
theorem zC{α β:Type}(f:α->β):∀(l:ue α)(i:Nat),(l.map f).eraseIdx i=(l.eraseIdx i).map f
 |[],i=>by simp
 |x::r,0=>rfl
 |x::r,i+1=>by rw[dn,List.eraseIdx_cons_succ,List.eraseIdx_cons_succ,dn,zC f r i]
section
variable{prog:ub}{w:ua}{A:t9}{E:f_ 0}{s:tw}{K:Type}[DecidableEq K]{knd:HeapKind prog w K}
def Cq{d a:t7}{xs:ue (K×t7×s_)}{k:K}{p:t7×s_}{Q:uf n9->tw->Prop}(hu:knd.room A)(hkey:knd.is s.heap k a)(hm:s.heap.DictOfH knd d xs)(hp:atKey xs k=a_ p)(hz:xs.length<=bp)
  (h:∀h',h'.DictOfH knd d (xs.filter λx=>decide (x.1≠k))->mx d s.heap h'->Q (a_ (entryOfKey knd (k,p))) {s with heap:=h',toks:=s.toks+knd.draws k}):
  m_ prog w A (Builtin.Dict.takeOut d (.ref a)) Q E s:=by
 let⟨o,es,ep,ho,hc,hd,he,his,hn⟩:=hm;unfold Builtin.Dict.takeOut
 try with_reducible refine fo ?_
 refine aa (knd.pyHash hu hkey ?_);refine aa (wpAny_dictFind_heap (s:={ s with toks:=s.toks+knd.draws k}) hu hkey ho hd he his hn ?_ ?_)
 ·intro hno;rw[atKey_none_of_get hno]at hp;cases hp
 ·intro j q hj;have e1:=atKey_of_get hn hj;rw[hp]at e1;cases e1
  refine aa (oh (s:={ s with toks:=s.toks+knd.draws k}) ho hd ?_);rw[entry_at he j,hj];refine aa (wpAny_updateDictKeys (hz:=by have e:=size_of_entries he;omega) (hf:=by
   have:(es.eraseIdxIfInBounds j).size<=es.size:=by let⟨l⟩:=es;simp only[List.eraseIdxIfInBounds_toArray,bh];exact List.length_eraseIdx_le _ _
   exact Nat.le_succ_of_le this) (s:={ s with toks:=s.toks+knd.draws k}) ho hd (af (h _ ⟨_,_,ep+1,jk _ ho (Obj.isFreed_of_dict (Obj.data_mapDictKeys hd _)),
   hc.mapDictKeys _,Obj.data_mapDictKeys hd _,?_,?_,?_⟩ (ik ..))))
  ·rw[Array.toList_eraseIdxIfInBounds,he,<-zB hn hj,zC]
  ·intro x hx;exact knd.keeps (his x (jt.mp hx).1) ho hd (ik ..)
  ·exact(List.Sublist.map _ kc).nodup hn
def zD(knd:HeapKind prog w K)(d a:t7):MeetsIn prog w (Builtin.«dict.pop» ⟨[.ref d,.ref a],[]⟩) (λA R s=>knd.room A.in1/\∃k xs p,knd.is s.heap k a/\s.heap.DictOfH knd d xs/\xs.length<=bp/\atKey xs k=a_ p/\
   ∀h',h'.DictOfH knd d (xs.filter λx=>decide (x.1≠k))->mx d s.heap h'->R (.ok (.ret p.2)) {s with heap:=h',toks:=s.toks+knd.draws k}):=
 .of_wp λA R s ⟨hu,k,xs,p,hkey,hm,hz,hp,r⟩=>by
  unfold Builtin.«dict.pop»;refine aa ?_;unfold Builtin.Dict.keyAndDefault;refine aa (m7 hm.typeIs (show wpAny _ _ (pure (d,dh a,b_)) _ _ s from af ?_))
  have kp:(keyPart (dh a)).isSome=false:=rfl;simp only[kp,d5,if_false];let⟨o,es,ep,ho,hc,hd,he,his,hn⟩:=id hm;have ne:es.isEmpty=false:=by
   have e1:=size_of_entries he;cases xs with
   |nil=>cases hp
   |cons x t=>
    rw[dm]at e1;have:es≠#[]:=λe=>by rw[e]at e1;cases e1
    simpa using this
  refine aa (oh ho hd ?_);rw[ne];refine aa (af ?_);simp only[d5,if_false];refine aa (Cq hu hkey hm hp hz λh' q1 q2=>?_);simp only[Option.isNone_some,d5,if_false];exact aa (wpAny_letGo (af ⟨_,rfl,r h' q1 q2⟩))
end
section
variable{C:MC}{k:Nat}{X:Cx}
def Bj:PV->ue PV->PH->Rs PV:=λx ps h=>match x,ps with
 | .ref n,[y]=>if y.isKt=true then match bC h n with
   |some kvs=>match bQ kvs y with
    |some p=>.ok p (h.set n (.dD (vV kvs y)))
    |none=>.bad
   |none=>.bad
  else .bad
 |_,_=>.bad
theorem HD.drop{xs:ue (PV×t7×s_)}(r:RKd C φ H kvs ks)(rx:pP ks xs)(y:PV):∃ks',RKd C φ H (vV kvs y) ks'/\pP ks' (xs.filter λx=>decide (x.1≠y)):=by
 unfold RKd at r;unfold RKd
 induction r generalizing xs with
 |nil=>cases rx;exact⟨[],.nil,.nil⟩
 | @cons p q ps qs h t ih=>
  cases rx with
  | @cons _ z _ zs hz tz=>
   let⟨ks',i1,i2⟩:=ih tz;have eq1:p.1=q.1:=h.1;have eq2:q.1=z.1:=hz.1;unfold vV;rw[List.filter_cons,List.filter_cons];by_cases e:p.1=y
   ·have e':z.1=y:=by rw[<-eq2,<-eq1];exact e
    simp only[e,e',ne_eq,not_true_eq_false,decide_false,d5,if_false];exact⟨ks',i1,i2⟩
   ·have e':¬ z.1=y:=λw=>e (by rw[eq1,eq2];exact w);simp only[e,e',ne_eq,not_false_eq_true,decide_true,if_true];exact⟨q::ks',.cons h i1,.cons hz i2⟩
def PQ(c:Cxt C k X):MtR X "dict.pop" (rM C Bj):=λpins s σ H x xs v us Q I rx rs h=>by
 let⟨φ,h,p,ps,rh,rp,rps,po⟩:=h;unfold Bj at po;split at po
 ·rename_i n y;let⟨a,rfl,ha⟩:=rp;cases rx
  let⟨yv,rfl,ry⟩:=rps.one;let⟨yu,rfl,ryu⟩:=vals1 rs;let⟨hk,po⟩:=po.ite;split at po
  ·rename_i kvs ht;let⟨b,rfl⟩:=mM hk ry;cases ryu
   let⟨⟨ks,xs,r,rx',hz,hm,dd⟩,mu,nt⟩:=sE I c.K c.w rh ha ht;have hv:=HD.val (a:=a) r rx' y;cases e2:bQ kvs y with
   |none=>rw[e2]at po;exact po.elim
   |some p2=>
    rw[e2]at hv po;cases e3:atKey xs y with
    |none=>rw[e3]at hv;exact hv.elim
    |some z=>
     rw[e3]at hv;let⟨v',rv1,rv2⟩:=hv;refine call_meetsIn PySem.F.slot_dict_pop dd.typeIs PySem.F.entry_dict_pop (PySem.F.args_dict_pop_2 _ _) (zD (nR X.prog X.w) a b) ⟨c.room6,y,xs,z,yS I c.K hk ry,dd,hz,e3,λh' dd' hs=>?_⟩;let⟨ks',r1,r2⟩:=HD.drop r rx' y;let⟨o,es,ep,hq,h2,h3,h4,_,h5⟩:=dd';have hl2:ks'.length<=bp:=by
      have e1:=ft r1;have e4:=ft r;have e5:=ft rx';have e6:(vV kvs y).length<=kvs.length:=by unfold vV;exact qj _ _
      omega
     refine⟨v',upd H a (dDO C.w a ks'),xC I mu hs ⟨o,hq⟩ ⟨⟨hl2,hm,_,r2,o,es,ep,hq,h2,h3,?_,h5⟩,⟨o,hq⟩,?_⟩,rv1,?_⟩
     ·rw[h4,<-c.w];rfl
     ·rintro g1 g2 ⟨z1,z2,ws,z3,o',es',ep',z4,z5⟩ keep;exact⟨z1,z2,ws,z3,o',es',ep',keep _ z4,z5⟩
     ·exact po φ v' _ ba (Kp.upd nt) (rh.write ha nt ⟨ks',bE,RKd.mono ba (Kp.upd nt) r1⟩) (rv2.mono ba (Kp.upd nt))
  ·exact po.elim
 ·exact po.elim
def TZ:MtG C k X "dict" nD "dict.pop" Bj:=λc=>⟨PQ c,yT c⟩
def MF{h:PH}{y:PV}(ht:bC h n=a_ kvs)(hk:y.isKt=true)(e:bQ kvs y=a_ p):Bj (.ref n) [y] h=.ok p (h.set n (.dD (vV kvs y))):=by unfold Bj;simp only[hk,if_true,ht,e]
end
end L2
namespace L2
structure ZA(z TI TO i1 i2:t7)(f1 f2:ue t7):Prop where
 TIz:TI≠z
 TOz:TO≠z
 i1z:i1≠z
 i2z:i2≠z
 TITO:TI≠TO
 TIi1:TI≠i1
 TIi2:TI≠i2
 TOi1:TO≠i1
 TOi2:TO≠i2
 i12:i1≠i2
 a1:∀b∈f1,b≠z/\b≠TO/\b≠i2
 a2:∀b∈f2,b≠z/\b≠TO/\b≠i1
section
variable{prog:ub}{w:ua}{A:t9}{E:f_ 0}{s:tw}{z TI TO i1 i2:t7}{f1 f2:ue t7}{n1 n2:Nat}{P1 P2:Nat->s_->Prop}{S1 S2:Nat->t_->Prop}
def PR(D1:Draws prog w A i1 f1 n1 P1 S1)(D2:Draws prog w A i2 f2 n2 P2 S2)(Z:ZA z TI TO i1 i2 f1 f2){Q:f_ 0}(hz:IsZip s.heap z TI TO .none)(hTI:IsPair s.heap TI (.ref i1) (.ref i2))(hTO:IsPair s.heap TO a b)(s1:S1 k s.heap)(s2:S2 k s.heap)(k1:k<n1)(k2:k<n2)(hQ:∀x y h' tk,P1 k x->P2 k y->IsZip h' z TI TO (rawInt (e_ s))->IsPair h' TO x y->S1 (k+1) h'->S2 (k+1) h'->IsPair h' (e_ s) x y->h'.objs.size=(e_ s)+1->
   (∀c o,c≠z->c≠TO->c≠i1->c≠i2->s.heap.get? c=a_ o->h'.get? c=a_ o)->Q (.ref (e_ s)) {s with heap:=h',toks:=tk}):
  m_ prog w A (Builtin.«zip.__next__» ⟨[.ref z],[]⟩) (λfin s'=>∃v,fin=.done (.ret v)/\Q v s') E s:=by
 show wpAny _ _ (field (.ref z) 2 >>= _) _ _ _
 refine aa (jf hz rfl (x:=.bool false) rfl ?_)
 show wpAny _ _ (field (.ref z) 3 >>= _) _ _ _
 refine aa (jf hz rfl (x:=.ref TI) rfl ?_);refine aa (kg hTI rfl ?_)
 show wpAny _ _ (jh (.ref z) >>= _) _ _ _
 refine aa ?_;unfold jh;refine aa (jf hz rfl (x:=.none) rfl (af ?_));simp only[if_true];refine aa (mq ?_);refine aa (jf hz rfl (x:=.ref TO) rfl ?_);refine aa (m9 hz (by simp) λh₁ hz₁ hs₁=>?_)
 replace hz₁:IsZip h₁ z TI TO .ellipsis:=hz₁
 have e1:=hs₁.extBut;have s1a:S1 k h₁:=D1.frame _ _ _ s1 λb hb o e=>e1 b o (Z.a1 b hb).1 e;have s2a:S2 k h₁:=D2.frame _ _ _ s2 λb hb o e=>e1 b o (Z.a2 b hb).1 e;refine aa ?_;simp only[List.zipIdx_cons,List.zipIdx_nil,List.forIn_cons,List.forIn_nil];refine aa (aa (wpAny_onRaise ?_))
 show wpAny _ _ (nr (.ref i1) >>= _) _ _ _
 refine aa (D1.item k _ _ _ k1 s1a λx h₂ t2 px s1b hs₂=>af ?_);have e2:=hs₂.extBut;have s2b:S2 k h₂:=D2.frame _ _ _ s2a λb hb o e=>e2 b o (Z.a2 b hb).2.2 e;have hTO₂:IsPair h₂ TO a b:=e2 _ _ Z.TOi1 (e1 _ _ Z.TOz hTO);refine aa (kg hTO₂ rfl ?_);refine aa (wpAny_updateSeq_pair hTO₂ λh₃ hTO₃ hs₃=>?_)
 replace hTO₃:IsPair h₃ TO x b:=hTO₃
 have e3:=hs₃.extBut;have s1c:S1 (k+1) h₃:=D1.frame _ _ _ s1b λb hb o e=>e3 b o (Z.a1 b hb).2.1 e;have s2c:S2 k h₃:=D2.frame _ _ _ s2b λb hb o e=>e3 b o (Z.a2 b hb).2.1 e;refine aa (wpAny_letGo (af ?_));refine aa (aa (wpAny_onRaise ?_))
 show wpAny _ _ (nr (.ref i2) >>= _) _ _ _
 refine aa (D2.item k _ _ _ k2 s2c λy h₄ t4 py s2d hs₄=>af ?_);have e4:=hs₄.extBut;have s1d:S1 (k+1) h₄:=D1.frame _ _ _ s1c λb hb o e=>e4 b o (Z.a1 b hb).2.2 e;have hTO₄:IsPair h₄ TO x b:=e4 _ _ Z.TOi2 hTO₃;refine aa (kg hTO₄ rfl ?_);refine aa (wpAny_updateSeq_pair hTO₄ λh₅ hTO₅ hs₅=>?_)
 replace hTO₅:IsPair h₅ TO x y:=hTO₅
 have e5:=hs₅.extBut;refine aa (wpAny_letGo (af (af ?_)));refine aa (kg hTO₅ rfl ?_);refine aa (wpAny_newTuple ?_);have hsz:h₅.objs.size=(e_ s):=by have q4:=hs₄.1;have q3:=hs₃.1;have q2:=hs₂.1;have q1:=hs₁.1;rw[hs₅.1];exact q4.trans (q3.trans (q2.trans q1))
 have hz₅:IsZip h₅ z TI TO .ellipsis:=e5 _ _ Z.TOz.symm (e4 _ _ Z.i2z.symm (e3 _ _ Z.TOz.symm (e2 _ _ Z.i1z.symm hz₁)));have hk₅:∀c o,c≠z->c≠TO->c≠i1->c≠i2->s.heap.get? c=a_ o->h₅.get? c=a_ o:=λc o c1 c2 c3 c4 e=>e5 _ _ c2 (e4 _ _ c4 (e3 _ _ c2 (e2 _ _ c3 (e1 _ _ c1 e))));have s1e:S1 (k+1) h₅:=D1.frame _ _ _ s1d λb hb o e=>e5 b o (Z.a1 b hb).2.1 e;have s2e:S2 (k+1) h₅:=D2.frame _ _ _ s2d λb hb o e=>e5 b o (Z.a2 b hb).2.1 e;have hzlt:z<h₅.objs.size:=bf hz₅
 show wpAny _ _ (qw (.ref z) (.ref h₅.objs.size) >>= _) _ _ _
 refine aa ?_;unfold qw;have hz₆:IsZip (h₅.push {cls:=.type "tuple",data:=.seq #[x,y]}) z TI TO .ellipsis:=ae _ hz₅;refine aa (m9 hz₆ (by simp) λh₇ hz₇ hs₇=>?_)
 replace hz₇:IsZip h₇ z TI TO (rawInt h₅.objs.size):=hz₇
 refine m9 hz₇ (by simp) λh₈ hz₈ hs₈=>?_
 replace hz₈:IsZip h₈ z TI TO (rawInt h₅.objs.size):=hz₈
 have up:∀c o,c≠z->h₅.get? c=a_ o->h₈.get? c=a_ o:=λc o c1 e=>hs₈.extBut _ _ c1 (hs₇.extBut _ _ c1 (ae _ e));have hT₈:IsPair h₈ h₅.objs.size x y:=hs₈.extBut _ _ (ja hzlt) (hs₇.extBut _ _ (ja hzlt) (bo _ rfl));have hz8:h₈.objs.size=h₅.objs.size+1:=by rw[hs₈.1,hs₇.1,i4]
 rw[hsz]at hz₈ hT₈ hz8;refine af ⟨_,rfl,?_⟩
 show Q (.ref h₅.objs.size) _
 rw[hsz];exact hQ x y h₈ _ px py hz₈ (up _ _ Z.TOz hTO₅) (D1.frame _ _ _ s1e λb hb o e=>up b o (Z.a1 b hb).1 e) (D2.frame _ _ _ s2e λb hb o e=>up b o (Z.a2 b hb).1 e) hT₈ hz8 λc o c1 c2 c3 c4 e=>up c o c1 (hk₅ c o c1 c2 c3 c4 e)
def U0(D1:Draws prog w A i1 f1 n1 P1 S1)(D2:Draws prog w A i2 f2 n2 P2 S2)(Z:ZA z TI TO i1 i2 f1 f2){Q:PySem.Fin->tw->Prop}(hz:IsZip s.heap z TI TO .none)(hTI:IsPair s.heap TI (.ref i1) (.ref i2))(hTO:IsPair s.heap TO a b)(s1:S1 k s.heap)(s2:S2 k s.heap)(hk:k=n1\/k<n1/\k=n2)(hE:∀h' e tk,(∀c o,c≠z->c≠TO->c≠i1->c≠i2->s.heap.get? c=a_ o->h'.get? c=a_ o)->(∃o,h'.get? e=a_ o/\o.cls=.type "StopIteration")->E (.ref e) {s with heap:=h',toks:=tk}):
  m_ prog w A (Builtin.«zip.__next__» ⟨[.ref z],[]⟩) Q E s:=by
 show wpAny _ _ (field (.ref z) 2 >>= _) _ _ _
 refine aa (jf hz rfl (x:=.bool false) rfl ?_)
 show wpAny _ _ (field (.ref z) 3 >>= _) _ _ _
 refine aa (jf hz rfl (x:=.ref TI) rfl ?_);refine aa (kg hTI rfl ?_)
 show wpAny _ _ (jh (.ref z) >>= _) _ _ _
 refine aa ?_;unfold jh;refine aa (jf hz rfl (x:=.none) rfl (af ?_));simp only[if_true];refine aa (mq ?_);refine aa (jf hz rfl (x:=.ref TO) rfl ?_);refine aa (m9 hz (by simp) λh₁ hz₁ hs₁=>?_)
 replace hz₁:IsZip h₁ z TI TO .ellipsis:=hz₁
 have e1:=hs₁.extBut;have s1a:S1 k h₁:=D1.frame _ _ _ s1 λb hb o e=>e1 b o (Z.a1 b hb).1 e;have s2a:S2 k h₁:=D2.frame _ _ _ s2 λb hb o e=>e1 b o (Z.a2 b hb).1 e;refine aa ?_;simp only[List.zipIdx_cons,List.zipIdx_nil,List.forIn_cons,List.forIn_nil];refine aa (aa (wpAny_onRaise ?_))
 show wpAny _ _ (nr (.ref i1) >>= _) _ _ _
 rcases hk with rfl|⟨k1,rfl⟩
 ·refine aa (D1.done _ _ _ s1a λh₂ e hs₂ he=>?_);let⟨oe,hoe,hce⟩:=he;have hz₂:IsZip h₂ z TI TO .ellipsis:=hs₂ _ _ Z.i1z.symm hz₁;have hez:e≠z:=λx=>by subst x;rw[hz₂]at hoe;cases hoe;simp at hce
  exact m9 hz₂ (by simp) λh₃ _ hs₃=>hE h₃ e _ (λc o c1 _ c3 _ x=>hs₃.extBut _ _ c1 (hs₂ _ _ c3 (e1 _ _ c1 x))) ⟨oe,hs₃.extBut _ _ hez hoe,hce⟩
 ·refine aa (D1.item k _ _ _ k1 s1a λx h₂ t2 px s1b hs₂=>af ?_);have e2:=hs₂.extBut;have s2b:S2 k h₂:=D2.frame _ _ _ s2a λb hb o e=>e2 b o (Z.a2 b hb).2.2 e;have hTO₂:IsPair h₂ TO a b:=e2 _ _ Z.TOi1 (e1 _ _ Z.TOz hTO);refine aa (kg hTO₂ rfl ?_);refine aa (wpAny_updateSeq_pair hTO₂ λh₃ hTO₃ hs₃=>?_);have e3:=hs₃.extBut;have s2c:S2 k h₃:=D2.frame _ _ _ s2b λb hb o e=>e3 b o (Z.a2 b hb).2.1 e;refine aa (wpAny_letGo (af ?_));refine aa (aa (wpAny_onRaise ?_))
  show wpAny _ _ (nr (.ref i2) >>= _) _ _ _
  refine aa (D2.done _ _ _ s2c λh₄ e hs₄ he=>?_);let⟨oe,hoe,hce⟩:=he;have hz₄:IsZip h₄ z TI TO .ellipsis:=hs₄ _ _ Z.i2z.symm (e3 _ _ Z.TOz.symm (e2 _ _ Z.i1z.symm hz₁));have hez:e≠z:=λx=>by subst x;rw[hz₄]at hoe;cases hoe;simp at hce
  exact m9 hz₄ (by simp) λh₅ _ hs₅=>hE h₅ e _ (λc o c1 c2 c3 c4 x=>hs₅.extBut _ _ c1 (hs₄ _ _ c4 (e3 _ _ c2 (e2 _ _ c3 (e1 _ _ c1 x))))) ⟨oe,hs₅.extBut _ _ hez hoe,hce⟩
end
section
variable{prog:ub}{w:ua}{A:t9}{E:f_ 0}{s:tw}{z TI TO i1 i2:t7}{f1 f2:ue t7}{n1 n2:Nat}{P1 P2:Nat->s_->Prop}{S1 S2:Nat->t_->Prop}
def MG(hh:A.handled=b_)(D1:∀A:t9,A.handled=b_->Draws prog w A i1 f1 n1 P1 S1)(D2:∀A:t9,A.handled=b_->Draws prog w A i2 f2 n2 P2 S2)(Z:ZA z TI TO i1 i2 f1 f2){k:Nat}{a b:s_}{Q:uf s_->tw->Prop}
  (hz:IsZip s.heap z TI TO .none) (hTI:IsPair s.heap TI (.ref i1) (.ref i2)) (hTO:IsPair s.heap TO a b) (s1:S1 k s.heap) (s2:S2 k s.heap) (k1:k<n1) (k2:k<n2)
  (hQ:∀x y h' tk,P1 k x->P2 k y->IsZip h' z TI TO (rawInt (e_ s))->IsPair h' TO x y->S1 (k+1) h'->S2 (k+1) h'->IsPair h' (e_ s) x y->h'.objs.size=(e_ s)+1->
   (∀c o,c≠z->c≠TO->c≠i1->c≠i2->s.heap.get? c=a_ o->h'.get? c=a_ o)->Q (c_ (e_ s)) {s with heap:=h',toks:=tk}):
  m_ prog w A (pyNext (.ref z)) Q E s:=by
 have hT:s.TypeIs (.ref z) "zip" := ⟨_,hz,rfl⟩;unfold pyNext;exact aa (wpAny_attempt (ju (name:=gf "__next__") hT qk
  (ir qk hT PySem.F.entry_zip_next
   (PR (D1 A.in1 hh) (D2 A.in1 hh) Z hz hTI hTO s1 s2 k1 k2 λx y h' tk a1 a2 a3 a4 a5 a6 a7 a8 a9=>af (hQ x y h' tk a1 a2 a3 a4 a5 a6 a7 a8 a9)) (PySem.F.args_zip_next_1 _))))
def Es(hh:A.handled=b_)(D1:∀A:t9,A.handled=b_->Draws prog w A i1 f1 n1 P1 S1)(D2:∀A:t9,A.handled=b_->Draws prog w A i2 f2 n2 P2 S2)(Z:ZA z TI TO i1 i2 f1 f2){k:Nat}{a b:s_}{Q:uf s_->tw->Prop}
  (hz:IsZip s.heap z TI TO .none) (hTI:IsPair s.heap TI (.ref i1) (.ref i2)) (hTO:IsPair s.heap TO a b) (s1:S1 k s.heap) (s2:S2 k s.heap) (hk:k=n1\/k<n1/\k=n2)
  (hQ:∀h' tk,(∀c o,c≠z->c≠TO->c≠i1->c≠i2->s.heap.get? c=a_ o->h'.get? c=a_ o)->Q b_ {s with heap:=h',toks:=tk}):m_ prog w A (pyNext (.ref z)) Q E s:=by
 have hT:s.TypeIs (.ref z) "zip" := ⟨_,hz,rfl⟩;unfold pyNext;refine aa (wpAny_attempt (ju (name:=gf "__next__") hT qk
  (ir qk hT PySem.F.entry_zip_next (U0 (D1 A.in1 hh) (D2 A.in1 hh) Z hz hTI hTO s1 s2 hk λh' e tk hk he=>?_) (PySem.F.args_zip_next_1 _))))
 let⟨o,ho,hc⟩:=he;refine aa (wpAny_isInstance (T:="StopIteration") (b:=true) ⟨o,ho,hc⟩ isSubtype_stop ?_);exact af (hQ _ _ hk)
def MJ(hh:A.handled=b_)(it l:t7)(items:Array s_)(i:Nat)(h:items[i]?=b_):Draws prog w A it [it,l] i (λ_ _=>False) (λj g=>j=i/\g.IsListIter it l i/\g.IsList l items) where
 live:=λ_ _ st=>let ⟨o,ho,_⟩:=st.2.1;⟨o,ho⟩
 frame:=λ_ _ _ st hk=>⟨st.1,st.2.1.at λo e=>hk it (by simp) o e,st.2.2.at λo e=>hk l (by simp) o e⟩
 item:=λj s Q E hj st hQ=>absurd hj (by rw[st.1];exact i6 _)
 done:=λs Q E st hE=>wpAny_nextOf_list_end hh st.2.1 st.2.2 h hE
def PU(hh:A.handled=b_)(it:t7)(x:Str)(t:Tok)(i:Nat)(h:x.cps[i]?=b_):Draws prog w A it [it] i (λ_ _=>False) (λj g=>j=i/\g.IsStrIter it "str_ascii_iterator" x t i) where
 live:=λ_ _ st=>let ⟨o,ho,_⟩:=st.2;⟨o,ho⟩
 frame:=λ_ _ _ st hk=>⟨st.1,let ⟨o,e,r⟩:=st.2;⟨o,hk it (by simp) o e,r⟩⟩
 item:=λj s Q E hj st hQ=>absurd hj (by rw[st.1];exact i6 _)
 done:=λs Q E st hE=>wpAny_nextOf_ascii_end hh st.2 h hE
end
abbrev PY(h:t_)(l1:t7):t_:=h.push {cls:=.type "list_iterator",data:=.fields #[.ref l1,.int 0 0]}
abbrev PZ(h:t_)(l1:t7)(x:Str)(t:Tok):t_:=(PY h l1).push {cls:=.type "str_ascii_iterator",data:=.fields #[.str x t,.int 0 0]}
abbrev Q1(h:t_)(l1:t7)(x:Str)(t:Tok):t_:=(PZ h l1 x t).push {cls:=.type "tuple",data:=.seq #[.ref h.objs.size,.ref (PY h l1).objs.size]}
abbrev Q2(h:t_)(l1:t7)(x:Str)(t:Tok):t_:=(Q1 h l1 x t).push {cls:=.type "tuple",data:=.seq #[.none,.none]}
abbrev Gw(h:t_)(l1:t7)(x:Str)(t:Tok):t_:=(Q2 h l1 x t).push {cls:=.type "zip",data:=.fields #[.none,.bool false,.bool false,.ref (PZ h l1 x t).objs.size,.ref (Q1 h l1 x t).objs.size]}
set_option maxHeartbeats 4000000 in
theorem Et(l1:t7)(xs:Array s_)(x:Str)(t:Tok)(ha:x.cps.all (· < 128)=true):
  Meets (Builtin.«zip.__new__» ⟨[.type "zip",.ref l1,.str x t],[]⟩) (λ_ R s=>s.heap.IsList l1 xs/\R (.ok (.ret (.ref (Q2 s.heap l1 x t).objs.size))) {s with heap:=Gw s.heap l1 x t}):=
 .of_wp λprog w A R s h=>by
  let⟨hp,g,d,tk,os⟩:=s;let⟨hl1,h⟩:=h;have hsub:=sub_zip;have hL1:Heap.IsList (Shared.heap ⟨hp,g,d,tk,os⟩) l1 xs:=hl1
  wp_walk using qo hL1,wpAny_pyIter_ascii ha
  exact⟨_,rfl,h⟩
section
variable{prog:ub}{w:ua}{A:t9}{E:f_ 0}{s:tw}
def Q3{l1:t7}{xs:Array s_}{x:Str}{t:Tok}{Q:f_ 0}(hl1:s.heap.IsList l1 xs)(ha:x.cps.all (· < 128)=true)
  (h:∀h',IsZip h' (s.heap.objs.size+4) (s.heap.objs.size+2) (s.heap.objs.size+3) .none->IsPair h' (s.heap.objs.size+2) (.ref (e_ s)) (.ref (s.heap.objs.size+1))->
   IsPair h' (s.heap.objs.size+3) .none .none->h'.IsListIter (e_ s) l1 0->h'.IsStrIter (s.heap.objs.size+1) "str_ascii_iterator" x t 0->h'.objs.size=(e_ s)+5->
   (∀c o,s.heap.get? c=a_ o->h'.get? c=a_ o)->Q (.ref (s.heap.objs.size+4)) {s with heap:=h'}):
  m_ prog w A (call (.type "zip") [.ref l1,.str x t]) Q E s:=by
 refine callType_new PySem.F.called_zip nofun (PySem.F.typeCall_zip_2 _ _) (PySem.F.newCall_zip_2 _ _) (λobj=>PySem.F.args_object_init_3 obj _ _) PySem.F.entry_zip_new
  (Et l1 xs x t ha) ⟨hl1,?_⟩
 have z1:(PY s.heap l1).objs.size=(e_ s)+1:=i4 ..;have z2:(PZ s.heap l1 x t).objs.size=(e_ s)+2:=by rw[i4,z1]
 have z3:(Q1 s.heap l1 x t).objs.size=(e_ s)+3:=by rw[i4,z2]
 have z4:(Q2 s.heap l1 x t).objs.size=(e_ s)+4:=by rw[i4,z3]
 have z5:(Gw s.heap l1 x t).objs.size=(e_ s)+5:=by rw[i4,z4]
 have g5:(Gw s.heap l1 x t).get? (Q2 s.heap l1 x t).objs.size=a_ _:=bo _ rfl;have g4:(Gw s.heap l1 x t).get? (Q1 s.heap l1 x t).objs.size=a_ _:=ae _ (bo _ rfl);have g3:(Gw s.heap l1 x t).get? (PZ s.heap l1 x t).objs.size=a_ _:=ae _ (ae _ (bo _ rfl));have g2:(Gw s.heap l1 x t).get? (PY s.heap l1).objs.size=a_ _:=ae _ (ae _ (ae _ (bo _ rfl)));have g1:(Gw s.heap l1 x t).get? (e_ s)=a_ _:=ae _ (ae _ (ae _ (ae _ (bo _ rfl))))
 show _/\_
 rw[z2,z3,z4]at g5;rw[z1,z2]at g3;rw[z3]at g4;rw[z1]at g2;rw[z4];exact⟨⟨_,g5,rfl⟩,h _ g5 g3 g4 ⟨_,g1,rfl,rfl⟩ ⟨_,g2,rfl,rfl⟩ z5 λc o e=>ae _ (ae _ (ae _ (ae _ (ae _ e))))⟩
end
def ItZ(K:ag)(l:t7)(x:Str):It:=
 ⟨λi H=>(∃vs v,SqL K H l vs/\vs[i]?=a_ v)/\i<x.cps.size,
  λi H y H'=>∃t v c,H t=b_/\(∀vs,SqL K H l vs->vs[i]?=a_ v)/\x.cps[i]?=a_ c/\y=.ref t/\H'=upd H t (.tup [v,.str ⟨#[c]⟩]),
  λi H=>∃vs,SqL K H l vs/\(vs.length<=i\/x.cps.size<=i)⟩
def eO{h:t_}{o p:Obj}(ha:h.get? a=a_ o)(hb:h.get? b=a_ p)(ca:o.cls=.type m)(cb:p.cls=.type n)(hn:m≠n):a≠b:=λe=>by
 subst e;rw[ha]at hb;cases hb
 rw[ca]at cb;cases cb
 exact hn rfl
def Bk{h:t_}{z TI TO i1 i2 l:t7}{a b:s_}{x:Str}{t:Tok}{i:Nat}{xs:Array s_}(hTT:TI≠TO)(hz:IsZip h z TI TO .none)(hTI:IsPair h TI (.ref i1) (.ref i2))(hTO:IsPair h TO a b)(h1:h.IsListIter i1 l i)(h2:h.IsStrIter i2 "str_ascii_iterator" x t i)(hl:h.IsList l xs):
  ZA z TI TO i1 i2 [i1,l] [i2]/\l≠i1:=by
 let⟨ol,el,cl,_⟩:=hl;let⟨o1,e1,c1,d1⟩:=h1;let⟨o2,e2,c2,d2⟩:=h2;have n1z:i1≠z:=eO e1 hz c1 rfl nofun;have n2z:i2≠z:=eO e2 hz c2 rfl nofun;have nO1:TO≠i1:=eO hTO e1 rfl c1 nofun;have nO2:TO≠i2:=eO hTO e2 rfl c2 nofun;have n12:i1≠i2:=eO e1 e2 c1 c2 nofun;have lz:l≠z:=eO el hz cl rfl nofun;have lO:l≠TO:=eO el hTO cl rfl nofun;have l2:l≠i2:=eO el e2 cl c2 nofun;refine⟨⟨eO hTI hz rfl rfl nofun,eO hTO hz rfl rfl nofun,n1z,n2z,hTT,eO hTI e1 rfl c1 nofun,eO hTI e2 rfl c2 nofun,nO1,nO2,n12,λb hb=>?_,λb hb=>?_⟩,eO el e1 cl c1 nofun⟩
 ·simp only[bx,ku,or_false]at hb;rcases hb with rfl|rfl
  ·exact⟨n1z,nO1.symm,n12⟩
  ·exact⟨lz,lO,l2⟩
 ·simp only[bx,ku,or_false]at hb;subst hb;exact⟨n2z,nO2.symm,n12.symm⟩
def MK{P:ub}{w:ua}{K:ag}{elts:ue uc}{x1:Nat}{pos:Pos}(l:t7)(x:Str)(t:Tok)(z TI TO i1 i2:t7)(hTT:TI≠TO):
  Turn P w K (.Tuple elts x1 pos) (ItZ K l x) [z,TI,TO,i1,i2] z (λi h=>IsZip h z TI TO .none/\IsPair h TI (.ref i1) (.ref i2)/\(∃a b,IsPair h TO a b)/\h.IsListIter i1 l i/\h.IsStrIter i2 "str_ascii_iterator" x t i) where
 mem:=by simp
 obj:=λi h ⟨hz,hTI,⟨a,b,hTO⟩,⟨o1,e1,_,d1⟩,⟨o2,e2,_,d2⟩⟩ b hb=>by
  simp only[bx,ku,or_false]at hb;rcases hb with rfl|rfl|rfl|rfl|rfl
  ·exact⟨_,hz,λv q=>by cases q⟩
  ·exact⟨_,hTI,λv q=>by cases q⟩
  ·exact⟨_,hTO,λv q=>by cases q⟩
  ·exact⟨_,e1,λv q=>by rw[d1]at q;cases q⟩
  ·exact⟨_,e2,λv q=>by rw[d2]at q;cases q⟩
 keep:=λi h h' ⟨hz,hTI,⟨a,b,hTO⟩,h1,⟨o2,e2,r2⟩⟩ k=>⟨k z (by simp) _ hz,k TI (by simp) _ hTI,⟨a,b,k TO (by simp) _ hTO⟩,h1.at λo e=>k i1 (by simp) o e,⟨o2,k i2 (by simp) _ e2,r2⟩⟩
 item:=by
  intro X hP hw hK hc i pins s σ H E I hf ⟨hz,hTI,⟨a,b,hTO⟩,h1,h2⟩ ⟨⟨vs,v,hq,hv⟩,hx⟩;subst hP hw hK;let⟨its,rv,p,hsz⟩:=I.list hq;let⟨u,hu,ru⟩:=rv.get hv;have hl:=p.isList;let⟨ol,el,cl,_⟩:=id hl;let⟨o1,e1,c1,d1⟩:=id h1;let⟨o2,e2,c2,d2⟩:=id h2;have hi:i<its.length:=(ab.mp hu).1;let⟨Z,l1⟩:=Bk hTT hz hTI hTO h1 h2 hl;refine MG (I.ok.hd hc) (λA hA=>Draws.list hA i1 l l1 its.toArray) (λA hA=>Draws.strAscii hA i2 x t) Z hz hTI hTO ⟨h1,hl⟩ h2 (l_ hi) hx λxx yy h' tk px py a1 a2 a3 a4 a5 a6 kp=>⟨_,rfl,?_⟩;let⟨cc,tu,ecc,rfl⟩:=py;have exx:xx=u:=by
   have:its[i]?=a_ xx:=by simpa using px
   rw[hu]at this;cases this;rfl
  subst exx;refine wpAny_letOwnedTupleGo_zip (s:={s with heap:=h',toks:=tk}) a1 λh'' hI same=>?_;have fr:H (e_ s)=b_:=I.hok.fresh (bq _);have nt:∀{b:t7}{o:Obj},s.heap.get? b=a_ o->(e_ s)≠b:=λe=>ja (bf e);have sb:∀(b:t7)(o:Obj),b≠z->h'.get? b=a_ o->h''.get? b=a_ o:=λb o hb e=>(same.2 b hb).trans e;have gt':=sb _ _ (nt hz) a5;have kp':∀(b:t7)(o:Obj),b∉[z,TO,i1,i2]->s.heap.get? b=a_ o->h''.get? b=a_ o:=λb o hb e=>sb b o (λq=>hb (by simp[q])) (kp b o (λq=>hb (by simp[q])) (λq=>hb (by simp[q])) (λq=>hb (by simp[q])) (λq=>hb (by simp[q])) e);have sub:∀b,b∈[z,TO,i1,i2]->b∈[z,TI,TO,i1,i2]:=λb hb=>by simp only[bx,ku,or_false]at hb⊢;rcases hb with q|q|q|q <;> simp[q]
  have nit:∀b u,H b=a_ u->b∉[z,TO,i1,i2]:=λb u e q=>by have:=(hf b (sub b q)).1;rw[this]at e;cases e
  have nsz:∀b u,H b=a_ u->b≠(e_ s):=λb u e q=>by rw[q,fr]at e;cases e
  refine⟨.ref (e_ s),upd H (e_ s) (.tup [v,.str ⟨#[cc]⟩]),?_,rfl,⟨_,v,cc,fr,λys hy=>by rw[I.list_inj hy hq];exact hv,ecc,rfl,rfl⟩,⟨hI,sb _ _ Z.TIz (kp _ _ Z.TIz hTT Z.TIi1 Z.TIi2 hTI),⟨_,_,sb _ _ Z.TOz a2⟩,a3.1.at λo e=>sb _ _ Z.i1z e,?_⟩,λb hb=>?_⟩
  ·refine Inv.step (s:=s) (h':=h'') (H:=H) (g':=s.gens) (d':=s.drawn) (t':=tk) (ch:=[z,TO,i1,i2]) I (λb hb=>?_) (λb o _ _ hc e _=>kp' b o hc e) (λb o _ _ hc e _=>⟨o.slots,kp' b o hc e⟩) (λb o hc e n=>?_)
    (λb o hc e=>⟨o,kp' b o hc e⟩) (λb xs e=>by rw[aV (nsz _ _ e)];exact e) (λb o u e=>by rw[aV (nsz _ _ e)];exact e) (λb ps e=>⟨#[],by rw[aV (nsz _ _ e),e];simp⟩) (λm hm=>?_) (λb u e=>?_) I.bare
   ·let⟨f0,f1,f2,f3,f4,f5⟩:=hf b (sub b hb);exact⟨f3,f1,f4,f5⟩
   ·rw[aV (bu (bf e))];exact n
   ·let⟨o,es,ep,ho,r⟩:=hm;exact⟨o,es,ep,kp' _ o (λq=>(hf _ (sub _ q)).2.1 rfl) ho,r⟩
   ·by_cases hb:b=(e_ s)
    ·subst hb;rw[bE]at e;cases e
     exact⟨by show 2<=bp;rw[rW];decide,[xx,.str ⟨#[cc]⟩ tu],.cons ru (.cons ⟨_,rfl⟩ .nil),_,gt',rfl,⟨_,rfl⟩,rfl⟩
    ·rw[aV hb]at e;refine(I.hok b u e).stay (λc v hc q=>kp' c v ?_ q) (λc q=>by rw[aV (nsz _ _ q)];exact q) λc xs q=>by rw[aV (nsz _ _ q)];exact q
     rcases hc with q|q
     ·rw[q];exact nit b u e
     ·exact nit c _ q
  ·let⟨o,e,r⟩:=a4;exact⟨o,sb _ _ Z.i2z e,r⟩
  ·have hb':=(hf b hb).1;have:b≠(e_ s):=by
    simp only[bx,ku,or_false]at hb;rcases hb with rfl|rfl|rfl|rfl|rfl
    ·exact(nt hz).symm
    ·exact(nt hTI).symm
    ·exact(nt hTO).symm
    ·exact(nt e1).symm
    ·exact(nt e2).symm
   rw[aV this];exact hb'
 done:=by
  intro X hP hw hK hc i pins s σ H E I hf ⟨hz,hTI,⟨a,b,hTO⟩,h1,h2⟩ ⟨vs,hq,hd⟩;subst hP hw hK;let⟨its,rv,p,hsz⟩:=I.list hq;have hlen:=rv.length;have hl:=p.isList;let⟨ol,el,cl,_⟩:=id hl;let⟨o1,e1,c1,d1⟩:=id h1;let⟨o2,e2,c2,d2⟩:=id h2;let⟨Z,l1⟩:=Bk hTT hz hTI hTO h1 h2 hl;have sub:∀b,b∈[z,TO,i1,i2]->b∈[z,TI,TO,i1,i2]:=λb hb=>by simp only[bx,ku,or_false]at hb⊢;rcases hb with q|q|q|q <;> simp[q]
  have nit:∀b u,H b=a_ u->b∉[z,TO,i1,i2]:=λb u e q=>by have:=(hf b (sub b q)).1;rw[this]at e;cases e
  have fin:∀(h':t_)(tk:Nat),(∀c o,c≠z->c≠TO->c≠i1->c≠i2->s.heap.get? c=a_ o->h'.get? c=a_ o)->Inv X pins σ H {s with heap:=h',toks:=tk}:=λh' tk kp=>by
   have kp':∀(b:t7)(o:Obj),b∉[z,TO,i1,i2]->s.heap.get? b=a_ o->h'.get? b=a_ o:=λb o hb e=>kp b o (λq=>hb (by simp[q])) (λq=>hb (by simp[q])) (λq=>hb (by simp[q])) (λq=>hb (by simp[q])) e;refine Inv.step (s:=s) (h':=h') (H:=H) (g':=s.gens) (d':=s.drawn) (t':=tk) (ch:=[z,TO,i1,i2]) I (λb hb=>?_) (λb o _ _ hc e _=>kp' b o hc e) (λb o _ _ hc e _=>⟨o.slots,kp' b o hc e⟩) (λb o hc e n=>n)
    (λb o hc e=>⟨o,kp' b o hc e⟩) (λb xs e=>e) (λb o u e=>e) (λb ps e=>⟨#[],by rw[e];simp⟩) (λm hm=>?_) (λb u e=>?_) I.bare
   ·let⟨f0,f1,f2,f3,f4,f5⟩:=hf b (sub b hb);exact⟨f3,f1,f4,f5⟩
   ·let⟨o,es,ep,ho,r⟩:=hm;exact⟨o,es,ep,kp' _ o (λq=>(hf _ (sub _ q)).2.1 rfl) ho,r⟩
   ·refine(I.hok b u e).stay (λc v hc q=>kp' c v ?_ q) (λ_ q=>q) λ_ _ q=>q;rcases hc with q|q
    ·rw[q];exact nit b u e
    ·exact nit c _ q
  by_cases hi:i<its.length
  ·have hx:x.cps.size<=i:=by rcases hd with q|q;omega;exact q
   exact Es (I.ok.hd hc) (λA hA=>Draws.list hA i1 l l1 its.toArray) (λA hA=>PU hA i2 x t i (Array.getElem?_eq_none hx)) Z hz hTI hTO ⟨h1,hl⟩ ⟨rfl,h2⟩ (.inr ⟨l_ hi,rfl⟩) λh' tk kp=>⟨rfl,fin h' tk kp⟩
  ·exact Es (I.ok.hd hc) (λA hA=>MJ hA i1 l its.toArray i (by simp;omega)) (λA hA=>Draws.strAscii hA i2 x t) Z hz hTI hTO ⟨rfl,h1,hl⟩ h2 (.inl rfl) λh' tk kp=>⟨rfl,fin h' tk kp⟩
 self:=λ_ _ _ _ _ ⟨hz,_⟩ h=>wpAny_pyIter_zip hz h
def boot_zip:qc "zip" = a_ (.type "zip"):=by first|rfl|decide +kernel|kernel_rfl
section
variable{C:MC}{k:Nat}{X:Cx}
def XW(X:Cx)(ta:TA):TI:=λσ H R=>ta σ H λvs H1=>∃l xs x,vs=[.ref l,.str x]/\SqL X.K H1 l xs/\(x.cps.all λc=>decide (c<128))=true/\R (ItZ X.K l x) H1
def U1{a b:uc}{ta:TA}{p pos:Pos}{elts:ue uc}{x1:Nat}{tp:Pos}(hg:Gl X "zip")(hm:X.mg "zip" = b_)(ha:PA X [a,b] ta)(hs:da [a,b] X.env=[(false,eval a X.env),(false,eval b X.env)]:=by rfl)(hs2:da [b] X.env=[(false,eval b X.env)]:=by rfl):
  PI X (.Tuple elts x1 tp) (.Call (.Name "zip" p) [a,b] [] pos) (XW X ta):=by
 intro pins s σ H R I h;refine Call_ (tR I hg hm boot_zip (lu (thn (ha pos pins s σ H _ I h) λus s1 hz=>?_) (by rw[hs,hs2]) (by rw[hs2];rfl)));let⟨vs,H1,I1,r1,q1⟩:=hz;let⟨l,xs,x,e,hq,asc,q⟩:=q1;subst e;cases r1 with
 |cons r rr=>
  cases rr with
  |cons r' rr=>
   cases rr
   cases r
   let⟨t,rfl⟩:=r';let⟨its,rv,pl,hz⟩:=I1.list hq;refine Q3 pl.isList asc λh' a1 a2 a3 a4 a5 a6 kp=>?_;refine wpAny_pyIter_zip a1 ?_;refine⟨(e_ s1)+4,[(e_ s1)+4,(e_ s1)+2,(e_ s1)+3,(e_ s1),(e_ s1)+1],_,_,H1,rfl,I1.kept (t':=s1.toks) kp,MK l x t _ _ _ _ _ (bu (qy (s1.heap.objs.size+2))),⟨a1,a2,⟨_,_,a3⟩,a4,a5⟩,λb hb=>?_,q⟩;have hle:(e_ s1)<=b:=by
    simp only[bx,ku,or_false]at hb;rcases hb with e|e|e|e|e
    all_goals rw[e]
    all_goals first|exact bq _|exact o8 _ _
   exact I1.fpOk hle (I1.hok.fresh hle)
def wX(xs:ue PV)(x:Str):ue PV:=List.zipWith (λp c=>PV.tup [p,.str ⟨#[c]⟩]) xs x.cps.toList
def U2:ue PV->PH->Rs Wk:=λps h=>match ps with
 | [.ref n,.str x]=>if (x.cps.all fun c=>decide (c < 128))=true then (match aS h n with
   |some xs=>.ok ⟨wX xs x,uE n xs⟩ h
   |none=>.bad) else .bad
 |_=>.bad
def Q4(ms:Ma):Mi:=λδ h=>(ms δ h).bind U2
def ML(xs:ue PV)(x:Str):(wX xs x).length=min xs.length x.cps.size:=by simp[wX]
def Wo{x y:uc}{ms:Ma}{elts:ue uc}{x1:Nat}{tp p pos:Pos}(ha:SA C k X [x,y] ms)(hb:("zip" : Str)∈C.bs:=by decide)(hg:Gl X "zip" := by rfl)(hs:da [x,y] X.env=[(false,eval x X.env),(false,eval y X.env)]:=by rfl)(hs2:da [y] X.env=[(false,eval y X.env)]:=by rfl):
  SI C k X (.Tuple elts x1 tp) (.Call (.Name "zip" p) [x,y] [] pos) (Q4 ms):=λc=>
 (U1 hg (c.bn _ hb) (ha c) hs hs2).imp λσ H R h=>by
  let⟨φ,δ,h,rh,re,p⟩:=h;refine⟨φ,δ,h,rh,re,(postA.bindI p).imp ?_⟩;rintro vs H1 ⟨φ1,xs,h1,p1,t1,rh1,rv1,q1⟩;unfold U2 at q1;split at q1
  ·rename_i n x;let⟨v,w,rfl,rx,ry⟩:=rv1.two;let⟨a,rfl,ha'⟩:=rx;cases ry
   split at q1
   ·rename_i asc;cases e:aS h1 n with
    |none=>rw[e]at q1;exact q1.elim
    |some xs=>
     rw[e]at q1;let⟨a2,us,ha2,sa,ra⟩:=cR rh1 e;rw[ha']at ha2;cases ha2;rw[<-c.K]at sa;refine⟨a,us,x,rfl,sa,asc,q1 φ1 H1 (ItZ X.K a x) ba (Kp.refl H1) rh1 λφ2 H2 h2 p2 t2 rh2 hg i=>?_⟩;have hg:(match aS h2 n with|some ys=>PV.beqs ys xs|none=>false)=true:=hg
     cases e2:aS h2 n with
     |none=>rw[e2]at hg;cases hg
     |some ys=>
      rw[e2]at hg;have hxy:=PV.beqs_eq hg;subst hxy;let⟨a3,us2,ha3,su,ru⟩:=cR rh2 e2;rw[jP p2 ha']at ha3;cases ha3;rw[<-c.K]at su;have hl:=ru.length
      show(i<(wX ys x).length->_)/\((wX ys x).length<=i->_)
      rw[ML];refine⟨λhi=>?_,λhi=>⟨us2,su,⋯⟩⟩;have hi1:i<us2.length:=⋯;have hi2:i<x.cps.size:=⋯;refine⟨⟨⟨us2,us2[i],su,by simp[hi1]⟩,hi2⟩,λy H' yl=>?_⟩;let⟨t,v,cc,ht,hv,ec,rfl,rfl⟩:=yl;let⟨pp,ep,rp⟩:=ru.get (hv us2 su);refine⟨⟨.tup [pp,.str ⟨#[cc]⟩],?_,?_⟩,Kp.new ht,rh2.aside ht⟩
      ·have ec':x.cps.toList[i]?=a_ cc:=by simpa using ec
       show(wX ys x)[i]?=_
       unfold wX;rw[List.getElem?_zipWith,ep,ec']
      ·exact⟨t,[v,.str ⟨#[cc]⟩],rfl,.inl (.inl bE),rp.mono ba (Kp.new ht),rfl,trivial⟩
   ·exact q1.elim
  ·exact q1.elim
end
def MM(f:s_):Prop:=f=.none\/∃T:Nat,f=rawInt T
abbrev wC(h:t_)(it d:t7)(i n ep:Nat)(f0:s_)(f1:Bool)(ok ov:s_):Prop:=h.get? it=a_ {cls:=.type "dict_itemiterator",data:=.fields #[f0,.bool f1,.ref d,.int i 0,.int n 0,.int ep 0,ok,ov]}
section
variable{prog:ub}{w:ua}{A:t9}{E:f_ 0}{s:tw}{v dc it:t7}{oc:Obj}{es:Array n9}{ep:Nat}{ok ov f0:s_}{f1:Bool}
def MN{Q:uf Obj->tw->Prop}(h:Q (s.heap.get? a) s):m_ prog w A (loadIfAlive a) Q E s:=λΓ p _=>by unfold loadIfAlive;rw[Sem.wp_loadIfAlive];exact h
def zE(hI:wC s.heap it dc i n ep f0 f1 ok ov):s.TypeIs (.ref it) "dict_itemiterator" := ⟨_,hI,rfl⟩
def Gx{Q:uf s_->tw->Prop}(hI:wC s.heap it dc i es.size ep f0 f1 ok ov)(h1:s.heap.get? dc=a_ oc)(h2:oc.data=.dict es ep)(hlt:i<es.size)(hf:MM f0)(q:∀h' f0' f1' ok' ov',MM f0'->wC h' it dc (i+1) es.size ep f0' f1' ok' ov'->h'.get? (e_ s)=a_ {cls:=.type "tuple",data:=.seq #[es[i].key,es[i].val]}->
   (∀(b:t7)(o:Obj),b≠it->s.heap.get? b=a_ o->h'.get? b=a_ o)->Q (c_ (e_ s)) {s with heap:=h'}):m_ prog w A (pyNext (.ref it)) Q E s:=by
 have hT:=zE hI;unfold pyNext;refine aa (wpAny_attempt (ju (name:=gf "__next__") hT je (ir je hT F.entry_dict_itemiterator_next ?_ (F.args_dict_itemiterator_next_1 _))));refine aa (af (aa (aa ?_)))
 first|refine aa (kn hT (af ?_))|refine aa (nu hT (af ?_))
 refine aa (wpAny_fieldsOf hI rfl ?_);rw[show p8 "dict_itemiterator" = true by decide];simp only[if_true]
 show wpAny _ _ (if(dh dc == cx)=true then _ else _) _ _ s
 rw[if_neg (show ¬ ((dh dc == cx)=true) from cu)]
 refine aa (af (aa (oh h1 h2 ?_)));rw[if_neg (show ¬ _ by simp)];refine aa (af (aa (wpAny_dictEpoch h1 h2 ?_)));rw[if_neg (show ¬ _ by simp)];refine af ?_;simp only[show ¬ ((i:Int)<0) by omega,if_false,Int.toNat_natCast,Array.getElem?_eq_getElem hlt];refine aa ?_
 first|refine aa (kn hT (af ?_))|refine aa (nu hT (af ?_))
 refine aa (wpAny_isOneOf_itemiter hT (show wpAny _ _ (setField (.ref it) 3 (rawInt ((i:Int)+1)) >>= _) _ _ s from aa (wpAny_setField hI rfl (by simp) ?_)))
 have hI':wC (s.heap.update it (sy (·.setIfInBounds 3 (rawInt ((i:Int)+1))))) it dc (i+1) es.size ep f0 f1 ok ov:=by
  show(s.heap.update it _).get? it=_
  rw[jk _ hI (Obj.isFreed_of_fields (Obj.data_mapFields rfl _))];simp[sy,rawInt]
 have kp:∀(b:t7)(o:Obj),b≠it->s.heap.get? b=a_ o->(s.heap.update it (sy (·.setIfInBounds 3 (rawInt ((i:Int)+1))))).get? b=a_ o:=λb o hb e=>by rw[(ik ..).2 b hb];exact e
 have sz:(s.heap.update it (sy (·.setIfInBounds 3 (rawInt ((i:Int)+1))))).objs.size=(e_ s):=(ik ..).1;generalize s.heap.update it (sy (·.setIfInBounds 3 (rawInt ((i:Int)+1))))=hA at hI' kp sz;have ty':({s with heap:=hA}:tw).TypeIs (.ref it) "dict_itemiterator" := zE hI';refine aa (fo (aa (wpAny_isOneOf_itemiter ty' (aa (wpAny_isOneOf_itemiter ty' ?_)))))
 show wpAny _ _ (Builtin.Dict_items.pairFromOwner (.ref it) 6 es[i].key es[i].val) _ _ _
 unfold Builtin.Dict_items.pairFromOwner;simp only[newTuple];refine aa (iw ?_ (by size_fits));have hI2:wC (hA.push {cls:=.type "tuple",data:=.seq #[es[i].key,es[i].val]}) it dc (i+1) es.size ep f0 f1 ok ov:=ae _ hI';have gt:(hA.push {cls:=.type "tuple",data:=.seq #[es[i].key,es[i].val]}).get? hA.objs.size=a_ {cls:=.type "tuple",data:=.seq #[es[i].key,es[i].val]}:=bo _ rfl;have kp2:∀(b:t7)(o:Obj),b≠it->s.heap.get? b=a_ o->(hA.push {cls:=.type "tuple",data:=.seq #[es[i].key,es[i].val]}).get? b=a_ o:=λb o hb e=>ae _ (kp b o hb e);rw[sz]at gt;have ne:(e_ s)≠it:=ja (bf hI)
 show wpAny _ _ _ _ _ {s with heap:=hA.push {cls:=.type "tuple",data:=.seq #[es[i].key,es[i].val]} }
 generalize hA.push {cls:=.type "tuple",data:=.seq #[es[i].key,es[i].val]}=hB at hI2 gt kp2;have eA:(dh ({s with heap:=hA}:tw).heap.objs.size)=.ref (e_ s):=by rw[<-sz]
 simp only[eA];have stp:∀{h1:t_}{fs:Array s_}{j:Nat}{x:s_}{α:Type}{f:Unit->Sem α}{R:α->tw->Prop}{E':f_ 0},h1.get? it=a_ {cls:=.type "dict_itemiterator",data:=.fields fs}->j<fs.size->
   (∀h2:t_,h2.get? it=a_ {cls:=.type "dict_itemiterator",data:=.fields (fs.setIfInBounds j x)}->(∀(b:t7),b≠it->h2.get? b=h1.get? b)->m_ prog w A.in1 (f ()) R E' {s with heap:=h2})->
   m_ prog w A.in1 (setField (.ref it) j x >>= f) R E' {s with heap:=h1}:=λ{h1 fs j x α f R E'} g hj k=>by
  refine aa (wpAny_setField (s:={s with heap:=h1}) g rfl hj ?_);refine k _ ?_ λb hb=>(ik ..).2 b hb;rw[jk _ g (Obj.isFreed_of_fields (Obj.data_mapFields rfl _))];simp[sy]
 have free:∀E':f_ 0,m_ prog w A.in1 (rn (.ref it)) (λ_ s'=>∃h9 g1,s'={s with heap:=h9}/\wC h9 it dc (i+1) es.size ep f0 g1 ok ov/\∀b,b≠it->h9.get? b=hB.get? b) E' {s with heap:=hB}:=λE'=>by
  unfold rn;refine aa (jf (s:={s with heap:=hB}) hI2 rfl (x:=f0) rfl ?_);rcases hf with rfl|⟨T,rfl⟩
  ·exact af ⟨hB,f1,rfl,hI2,λ_ _=>rfl⟩
  ·show wpAny _ _ (loadIfAlive ((T:Int).toNat) >>= _) _ _ _
   refine aa (MN ?_);cases hB.get? ((T:Int).toNat) with
   |none=>exact af ⟨hB,f1,rfl,hI2,λ_ _=>rfl⟩
   |some o=>
    simp only[Option.isNone_some,d5,if_false];refine aa (jf (s:={s with heap:=hB}) hI2 rfl (x:=.bool f1) rfl ?_);cases f1 with
    |false=>rw[if_pos nofun];refine stp hI2 (by simp) λh3 g3 s3=>?_;exact af ⟨h3,true,rfl,by show h3.get? it=_;rw[g3];simp,s3⟩
    |true=>rw[if_neg nofun];exact af ⟨hB,true,rfl,hI2,λ_ _=>rfl⟩
 refine aa (ji (free _) (λb s' hb=>?_) λ_ _ e=>e);let⟨h9,g1,rfl,hI9,s9⟩:=hb;cases b with
 |true=>
  simp only[if_true];refine aa (jf (s:={s with heap:=h9}) hI9 rfl (x:=ok) rfl (aa (jf (s:={s with heap:=h9}) hI9 rfl (x:=ov) rfl ?_)));refine stp hI9 (by simp) λh3 g3 s3=>?_;refine stp g3 (by simp) λh4 g4 s4=>?_;refine stp g4 (by simp) λh5 g5 s5=>?_;refine stp g5 (by simp) λh6 g6 s6=>?_;refine aa (wpAny_letGo (af (af ⟨_,rfl,af (q h6 (rawInt (e_ s)) false es[i].key es[i].val (.inr ⟨_,rfl⟩) (by rw[<-sz];show h6.get? it=_;rw[g6];simp) ?_ λb o hb e=>?_)⟩)))
  ·rw[s6 _ ne,s5 _ ne,s4 _ ne,s3 _ ne,s9 _ ne];exact gt
  ·rw[s6 _ hb,s5 _ hb,s4 _ hb,s3 _ hb,s9 _ hb];exact kp2 b o hb e
 |false=>
  simp only[d5,if_false];refine af (af ⟨_,rfl,af (q h9 f0 g1 ok ov hf hI9 ?_ λb o hb e=>?_)⟩)
  ·rw[s9 _ ne];exact gt
  ·rw[s9 _ hb];exact kp2 b o hb e
def Gy{Q:uf s_->tw->Prop}(hh:A.handled=b_)(hI:wC s.heap it dc i es.size ep f0 f1 ok ov)(h1:s.heap.get? dc=a_ oc)(h2:oc.data=.dict es ep)(hge:es.size<=i)(q:∀h',Heap.ExtBut it s.heap h'->Q b_ {s with heap:=h'}):m_ prog w A (pyNext (.ref it)) Q E s:=by
 have hT:=zE hI;unfold pyNext;refine aa (wpAny_attempt (ju (name:=gf "__next__") hT je (ir je hT F.entry_dict_itemiterator_next ?_ (F.args_dict_itemiterator_next_1 _))));refine aa (af (aa (aa ?_)))
 first|refine aa (kn hT (af ?_))|refine aa (nu hT (af ?_))
 refine aa (wpAny_fieldsOf hI rfl ?_);rw[show p8 "dict_itemiterator" = true by decide];simp only[if_true]
 show wpAny _ _ (if(dh dc == cx)=true then _ else _) _ _ s
 rw[if_neg (show ¬ ((dh dc == cx)=true) from cu)]
 refine aa (af (aa (oh h1 h2 ?_)));rw[if_neg (show ¬ _ by simp)];refine aa (af (aa (wpAny_dictEpoch h1 h2 ?_)));rw[if_neg (show ¬ _ by simp)];refine af ?_;simp only[show ¬ ((i:Int)<0) by omega,if_false,Int.toNat_natCast,Array.getElem?_eq_none hge];refine aa ?_
 first|refine aa (kn hT (af ?_))|refine aa (nu hT (af ?_))
 refine(show wpAny _ _ (setField (.ref it) 2 .none >>= _) _ _ s from aa (wpAny_setField hI rfl (by simp) ?_))
 refine(show wpAny _ _ (newExc (.type "StopIteration") [] >>= _) _ _ _ from aa ?_);simp only[newExc,newTuple]
 refine aa (iw (aa (m:=firstArgMember _ _) (wpAny_of_eq (a:=cx) (by first|rfl|(simp only[firstArgMember];rfl)) (iw ?_ (by size_fits)))) (by size_fits))
 simp only[raiseNew];refine aa (wpAny_handled ?_);rw[show A.in1.handled=b_ from hh]
 refine aa (af (wpAny_throw ?_));refine aa (wpAny_isInstance (T:="StopIteration") (b:=true) ⟨_,bo _ rfl,rfl⟩ isSubtype_stop ?_);exact af (q _ (((ik ..).extBut.push _).push _))
end
structure Prs(es:Array n9)(lo:t7)(h:t_)(as:ue t7):Prop where
 above:∀a∈as,lo<a
 rise:as.Pairwise (· < ·)
 pairs:∀(j:Nat) a,as[j]?=some a->∃e,es[j]?=some e/\h.get? a=some {cls:=.type "tuple",data:=.seq #[e.key,e.val]}
section
variable{prog:ub}{w:ua}{A:t9}{s:tw}{es:Array n9}{ep:Nat}{oc:Obj}{R:j_ Result}
def MP(hh:A.handled=b_)(hSI:S<I)(hSd:d≠S)(hId:d≠I)(h2:oc.data=.dict es ep)(hn:es.size<=bp)(res:s_){h₁:t_}(hR:∀h' tk acc c as,(∀b o,b≠S->b≠I->h₁.get? b=a_ o->h'.get? b=a_ o)->h'.get? S=a_ {cls:=.type "list",dict:=b_,data:=.seq acc c,slots:=#[]}->as.length=es.size->Prs es I h' as->
   acc.toList=as.map dh->R (.ok (.ret res)) {s with heap:=h',toks:=tk}):
  ∀(k i:Nat)(h:t_)(tk c:Nat)(acc:Array s_)(as:ue t7)(f0:s_)(f1:Bool)(ok ov:s_),es.size-i=k->i<=es.size->MM f0->wC h I d i es.size ep f0 f1 ok ov->h.get? d=a_ oc->(∀b o,b≠S->b≠I->h₁.get? b=a_ o->h.get? b=a_ o)->
   h.get? S=a_ {cls:=.type "list",dict:=b_,data:=.seq acc c,slots:=#[]}->acc.toList=as.map dh->as.length=i->Prs es I h as->
   codeAny (model prog w) A (.builtin "list.extend.loop" ⟨[.ref S,.ref I,res],[]⟩) R {s with heap:=h,toks:=tk}:=by
 have hne:S≠I:=bu hSI;intro k
 induction k with
 |zero=>
  intro i h tk c acc as f0 f1 ok ov hk hi ff hst hD hkeep hS hacc hal hG;refine jx PySem.F.entry_extend_loop ?_;rw[gv kh _]
  show wpAny _ A.in1 (pyNext (.ref I) >>= _) _ _ _
  refine aa (Gy (s:={s with heap:=h,toks:=tk}) (A:=A.in1) hh hst hD h2 ⋯ λh' he=>?_);refine af (hR h' tk acc c as (λb o h1 h2 e=>he b o h2 (hkeep b o h1 h2 e)) (he S _ hne hS) ⋯ ⟨hG.above,hG.rise,λj a hj=>?_⟩ hacc);let⟨e,e1,e2⟩:=hG.pairs j a hj;exact⟨e,e1,he a _ (ja (hG.above a (cq hj))) e2⟩
 |succ k ih=>
  intro i h tk c acc as f0 f1 ok ov hk hi ff hst hD hkeep hS hacc hal hG;have hlt:i<es.size:=⋯;have hsz:acc.size=i:=by rw[<-oq,hacc,aq,hal]
  have hIs:I<h.objs.size:=bf hst;have hSl:S<h.objs.size:=bf hS;refine jx PySem.F.entry_extend_loop ?_;rw[gv kh _]
  show wpAny _ A.in1 (pyNext (.ref I) >>= _) _ _ _
  refine aa (Gx (s:={s with heap:=h,toks:=tk}) (A:=A.in1) hst hD h2 hlt ff λh' g0 g1 ok' ov' ff' hst' ht hkp=>?_);dsimp only at ht hkp⊢;have hS':=hkp S _ hne hS;have up:∀b o,b≠S->h'.get? b=a_ o->(h'.update S (fc (·.push (dh h.objs.size)))).get? b=a_ o:=λb o hb e=>(j5 _ _ (iz hb)).trans e
  show wpAny _ A.in1 (updateSeq S (·.push (dh h.objs.size)) >>= _) _ _ _
  refine aa ?_;refine wpAny_updateSeq hS' rfl (af ⟨kz kh _,ih (i+1) _ tk _ (acc.push (dh h.objs.size)) (as++[h.objs.size]) g0 g1 ok' ov' ⋯ hlt ff' (up I _ (iz hne) hst') (up d _ hSd (hkp d _ hId hD))
   (λb o h1 h2 e=>up b o h1 (hkp b o h2 (hkeep b o h1 h2 e))) (jk _ hS' rfl) (by rw[Array.toList_push,hacc,d9];rfl) (by rw[az,hal];rfl) ⟨?_,?_,?_⟩⟩) (by rw[hsz];omega) (by show(acc.push (dh h.objs.size)).size<=bp+1;rw[Array.size_push];omega)
  ·intro a ha;rcases ai.mp ha with ha|ha
   ·exact hG.above a ha
   ·rw[cw.mp ha];exact hIs
  ·refine bg.mpr ⟨hG.rise,i8 _ _,λa ha b hb=>?_⟩;rw[cw.mp hb];let⟨j,hj⟩:=ic.mp ha;let⟨e,_,e2⟩:=hG.pairs j a hj;exact bf e2
  ·intro j b hj;rcases Nat.lt_trichotomy j as.length with h1|h1|h1
   ·rw[b9 h1]at hj;let⟨e,e1,e2⟩:=hG.pairs j b hj;have hb:=hG.above b (cq hj);exact⟨e,e1,up b _ (ja (qe hSI hb)) (hkp b _ (ja hb) e2)⟩
   ·subst h1;have hb:h.objs.size=b:=by simpa using hj
    subst hb;exact⟨es[i],by rw[hal];simp[hlt],up _ _ (ja hSl) ht⟩
   ·have hnone:(as++[h.objs.size])[j]?=b_:=jm (by rw[az,List.length_singleton];omega);rw[hnone]at hj;cases hj
end
end L2
namespace L2
open PySem.W
theorem Prs.low{es:Array n9}{lo lo':t7}{h:t_}{as:ue t7}(g:Prs es lo h as)(hl:lo'<=lo):Prs es lo' h as:=⟨λa ha=>Nat.lt_of_le_of_lt hl (g.above a ha),g.rise,g.pairs⟩
section
variable{prog:ub}{w:ua}{A:t9}{E:f_ 0}{s:tw}{es:Array n9}{ep:Nat}{oc:Obj}{r d:t7}
def Gz{R:j_ Result}(hh:A.handled=b_)(hv:s.heap.IsItemsView r d)(hD:s.heap.get? d=a_ oc)(h2:oc.data=.dict es ep)(S:t7)(hSr:S≠r)(hSd:d≠S)(res:s_)(c₀:Nat)(hS:s.heap.get? S=a_ {cls:=.type "list",data:=.seq #[] c₀})
  (hR:∀h' tk acc c as,(∀b o,b≠S->s.heap.get? b=a_ o->h'.get? b=a_ o)->h'.get? S=a_ {cls:=.type "list",dict:=b_,data:=.seq acc c,slots:=#[]}->as.length=es.size->Prs es (e_ s) h' as->
   acc.toList=as.map dh->R (.ok (.ret res)) {s with heap:=h',toks:=tk}) (hn:es.size<=bp):
  m_ prog w A.in1 (ql (.ref S) (.ref r) res)
   (λfin s'=>match fin with|.done f=>R (.ok f) s'|.again c'=>c'.quiet=true/\codeAny (model prog w) A c' R s') (λe s'=>R (.error e) s') s:=by
 have hSI:S<(e_ s):=bf hS;have hdI:d<(e_ s):=bf hD;have key:∀(h:t_)(c₁ tk:Nat),(∀b o,b≠S->(s.heap.push {cls:=.type "dict_itemiterator",data:=.fields #[.none,.bool false,.ref d,.int 0 0,.int es.size 0,.int ep 0,.none,.none]}).get? b=a_ o->h.get? b=a_ o)->
   h.get? S=a_ {cls:=.type "list",data:=.seq #[] c₁}->codeAny (model prog w) A (.builtin "list.extend.loop" ⟨[.ref S,.ref (e_ s),res],[]⟩) R {s with heap:=h,toks:=tk}:=by
  intro h c₁ tk hk hS₁;have hI:=hk (e_ s) _ (ja hSI) (bo _ rfl);exact MP (es:=es) (ep:=ep) (oc:=oc) (s:=s) (h₁:=s.heap) hh hSI hSd (bu hdI) h2 hn res (λh' tk' acc c as hk' hS' hl hG hacc=>hR h' tk' acc c as (λb o hb e=>hk' b o hb (bu (bf e)) e) hS' hl hG hacc)
   es.size 0 h tk c₁ #[] [] .none false .none .none (j0 _) (cv _) (.inl rfl) hI (hk d _ hSd (ae _ hD)) (λb o hb _ e=>hk b o hb (ae _ e)) hS₁ rfl rfl
   ⟨(λ_ ha=>nomatch ha),j9,(λj a hj=>by simp at hj)⟩
 unfold ql;refine aa (mz (T:="dict_items") hv.typeIs ?_);have h1:Builtin.List.listSameRef (.ref S) (.ref r)=false:=by simp[Builtin.List.listSameRef,hSr]
 have h3:(Value.type "dict_items" == Value.type "list")=false:=by decide
 have h4:(Value.type "dict_items" == Value.type "tuple")=false:=by decide
 simp only[h1,h3,h4,Bool.or_false,d5,if_false];refine aa (FY hv hD h2 ?_);have hS₁:=ae {cls:=.type "dict_itemiterator",data:=.fields #[.none,.bool false,.ref d,.int 0 0,.int es.size 0,.int ep 0,.none,.none]} hS;refine aa (fo (kdx_hint (let ⟨o,ho,hc,_⟩:=hv;⟨o,ae _ ho,hc⟩) ?_));refine wpAny_ite_split (λ_=>?_) (λ_=>af ⟨kz kh _,key _ c₀ _ (λb o _ e=>e) hS₁⟩);refine aa (mq ?_);refine aa ?_
 show wpAny _ _ (updateSeq S (·.push .none) >>= λ_=>updateSeq S (·.pop)) _ _ _
 refine aa (wpAny_updateSeq hS₁ rfl ?_);have hS₂:=jk (fc (·.push cx)) hS₁ rfl;refine wpAny_updateSeq (hz:=by seq_fits) hS₂ rfl ?_;have hS₃:=jk (fc (·.pop)) hS₂ rfl;refine af ⟨kz kh _,key _ _ _ (λb o hb e=>?_) hS₃⟩;exact(j5 _ _ (iz hb)).trans ((j5 _ _ (iz hb)).trans e)
end
section
variable{prog:ub}{w:ua}{A:t9}{E:f_ 0}{s:tw}{es:Array n9}{ep:Nat}{oc:Obj}{r d:t7}
def Eu{R:ue s_->tw->Prop}(hh:A.handled=b_)(hv:s.heap.IsItemsView r d)(hD:s.heap.get? d=a_ oc)(h2:oc.data=.dict es ep)(hn:es.size<=bp)
  (h:∀(h':t_)(tk:Nat)(as:ue t7),(∀b o,s.heap.get? b=a_ o->h'.get? b=a_ o)->as.length=es.size->Prs es (e_ s) h' as->R (as.map dh) {s with heap:=h',toks:=tk}):
  m_ prog w A (collect (.ref r)) R E s:=by
 have hr:r<(e_ s):=let ⟨_,ho,_⟩:=hv;bf ho;have hd:d<(e_ s):=bf hD;unfold collect;refine aa (wpAny_runValue (jx entry_proto_collect' ?_));rw[gv PySem.F.plain_proto_collect _]
 show wpAny _ A.in1 (newList [] >>= λl=>again (.builtin "list.__iadd__" ⟨[l,.ref r],[]⟩)) _ _ s
 refine aa (iw ?_);refine af ⟨kz PySem.F.plain_list_iadd _,jx entry_list_iadd' ?_⟩;rw[gv PySem.F.plain_list_iadd _];have hS₁:(s.heap.push {cls:=.type "list",data:=.seq ([]:ue s_).toArray}).get? (e_ s)=a_ {cls:=.type "list",data:=.seq #[]}:=bo _ rfl
 show wpAny _ A.in1 (ql (.ref (e_ s)) (.ref r) (.ref (e_ s))) _ _ _
 have key:=Gz (A:=A) (s:={s with heap:=s.heap.push {cls:=.type "list",data:=.seq ([]:ue s_).toArray} }) (prog:=prog) (w:=w) (es:=es) (ep:=ep) (oc:=oc) (r:=r) (d:=d)
  (R:=λ(q:Result)(s':tw)=>∃(h':t_)(tk:Nat)(acc':Array s_)(c':Nat)(as:ue t7),q=.ok (.ret (.ref (e_ s)))/\s'={s with heap:=h',toks:=tk}/\
   (∀b o,s.heap.get? b=a_ o->h'.get? b=a_ o)/\h'.get? (e_ s)=a_ {cls:=.type "list",dict:=b_,data:=.seq acc' c',slots:=#[]}/\as.length=es.size/\Prs es (e_ s) h' as/\acc'.toList=as.map dh)
  hh (let ⟨o,ho,x⟩:=hv;⟨o,ae _ ho,x⟩) (ae _ hD) h2 (e_ s) (ja hr) (bu hd) (.ref (e_ s)) 0 hS₁
  (λh' tk acc' c' as hk hS' hl hG hacc=>⟨h',tk,acc',c',as,rfl,rfl,λb o e=>hk b o (bu (bf e)) (ae _ e),hS',hl,hG.low (by show (e_ s)<=(s.heap.push _).objs.size;rw[i4];exact Nat.le_succ _),hacc⟩) hn
 have fin:∀(h':t_)(tk:Nat)(acc':Array s_)(c':Nat)(as:ue t7),(∀b o,s.heap.get? b=a_ o->h'.get? b=a_ o)->h'.get? (e_ s)=a_ {cls:=.type "list",dict:=b_,data:=.seq acc' c',slots:=#[]}->as.length=es.size->Prs es (e_ s) h' as->acc'.toList=as.map dh->R acc'.toList {s with heap:=h',toks:=tk}:=λh' tk acc' c' as hk _ hl hG hacc=>by rw[hacc];exact h h' tk as hk hl hG
 refine ji key (λfn s' x=>?_) λe s' x=>?_
 ·cases fn with
  |done f=>
   let⟨h',tk,acc',c',as,e,rfl,hk,hS',hl,hG,hacc⟩:=x;cases e
   show wpAny _ A (load (e_ s) >>= _) _ _ _
   refine aa (wpAny_load hS' (af ?_));exact fin h' tk acc' c' as hk hS' hl hG hacc
  |again c₁=>
   refine⟨x.1,codeAny_mono x.2 λq s₂ y=>?_⟩;let⟨h',tk,acc',c',as,rfl,rfl,hk,hS',hl,hG,hacc⟩:=y
   show wpAny _ A (load (e_ s) >>= _) _ _ _
   refine aa (wpAny_load hS' (af ?_));exact fin h' tk acc' c' as hk hS' hl hG hacc
 ·let⟨_,_,_,_,_,e',_⟩:=x;cases e'
end
section
variable{C:MC}{k:Nat}{X:Cx}{φ:ue t7}{H:Hp}
theorem MQ:∀{ps:ue PV}{vs:ue V},ps.length=vs.length->(∀(i:Nat) p v,ps[i]?=a_ p->vs[i]?=a_ v->RV C φ H p v)->RVs C φ H ps vs
 |[],[],_,_=>trivial
 |p::ps,v::vs,hl,h=>⟨h 0 p v rfl rfl,MQ (l_ hl) λi a b ha hb=>h (i+1) a b (l_ ha) (l_ hb)⟩
 |[],_::_,hl,_=>by cases hl
 |_::_,[],hl,_=>by cases hl
end
section
variable{C:MC}{k:Nat}{X:Cx}
def Cr(h:PH)(n:Nat):uf (ue PV):=match h[n]? with
 |some (.vw 0 d)=>match h[d]? with
  |some o=>uO o
  |none=>b_
 |_=>b_
end
end L2
namespace L2
open PySem.SeqAt PySem.W
def mN(x:PV)(h:PH):uf (ue PV):=match x with
 |.ref n=>match aS h n with
  |some ys=>a_ ys
  |none=>Cr h n
 |.fl ys=>a_ ys
 |_=>b_
noncomputable def iQ(f:Fn)(b:Bool)(kb:Nat)(x:PV)(h:PH):Rs PV:=match mN x h with
 |some ys=>if ys.length<1000000 then fZ f b kb ys ys [] h else .bad
 |none=>.bad
noncomputable def pB(f:Fn)(b:Bool)(kb:Nat)(me:Me):Me:=λδ h=>(me δ h).bind λx h1=>iQ f b kb x h1
section
variable{C:MC}{k:Nat}{X:Cx}
def JZ{pins:g_ 0}{s:tw}{σ:St}{φ:ue t7}{H:Hp}{h:PH}{a b:t7}{d:Nat}{o:MO}{ys:ue PV}(c:Cxt C k X)(I:Inv X pins σ H s)(rh:RH C φ H h)(hb:φ[d]?=a_ b)(hH:H a=a_ (LB 0 a b))(ho:h[d]?=a_ o)(ey:uO o=a_ ys)(hz:ys.length<1000000):
  wpAny (h_ X) X.A.in1 (collect (.ref a)) (λits s1=>∃H1 us,Aa H H1/\Inv X pins σ H1 s1/\aR us its/\RVs C φ H1 ys us) X.xe s:=by
 let⟨ks,u,oc,es,ep,W⟩:=RU c I rh hb ho (JX ey);have hv:s.heap.IsItemsView a b:=(I.hok a _ hH).1;let⟨ly,ent⟩:=W.items ys ey;have lk:=W.len;have hn:es.size<=bp:=by rw[fm];omega
 refine Eu (I.ok.hd c.calm) hv W.get W.data hn λh' tk as kp hl hG=>?_;have psl:(as.zip (ks.map λkv=>[kv.1,kv.2])).map (·.1)=as:=by
  show(as.zip _).map jv=as
  rw[List.map_fst_zip];rw[aq];omega
 have hpl:∀q∈as.zip (ks.map λkv=>[kv.1,kv.2]),(e_ s)<=q.1:=λq hq=>by
  have:q.1∈as:=by rw[<-psl];exact bz.mpr ⟨q,hq,rfl⟩
  exact oi (hG.above _ this)
 have nd:((as.zip (ks.map λkv=>[kv.1,kv.2])).map (·.1)).Nodup:=by rw[psl];exact hG.rise.imp λh=>bu h
 have each:∀(j:Nat)(t:t7),as[j]?=a_ t->∃(kv:V×V)(e:n9),ks[j]?=a_ kv/\(as.zip (ks.map λkv=>[kv.1,kv.2]))[j]?=a_ (t,[kv.1,kv.2])/\RelV kv.1 e.key/\RelV kv.2 e.val/\h'.get? t=a_ {cls:=.type "tuple",data:=.seq #[e.key,e.val]}:=λj t ht=>by
  let⟨e,e1,e2⟩:=hG.pairs j t ht;have hj:=(ab.mp ht).1;let⟨kv,ekv,r1,r2⟩:=W.ent j ⋯;have ee:es[j]'⋯=e:=by have:=Array.getElem?_eq_getElem (xs:=es) (i:=j) ⋯;rw[this]at e1;cases e1;rfl
  refine⟨kv,e,ekv,?_,by rw[<-ee];exact r1,by rw[<-ee];exact r2,e2⟩;rw[nq];exact⟨ht,by simp[ekv]⟩
 have vr:∀l:ue t7,aR (l.map V.ref) (l.map dh):=λl=>by
  induction l with
  |nil=>exact .nil
  |cons a l ih=>exact .cons rfl ih
 refine⟨_,as.map V.ref,B5 I hpl,I.laidT (t':=tk) (ps:=as.zip (ks.map λkv=>[kv.1,kv.2])) kp hpl (λp hp=>?_),vr as,?_⟩
 ·let⟨j,hj⟩:=ic.mp hp;have ha:as[j]?=a_ p.1:=by have:=congrArg (λl=>l[j]?) psl;simp[hj]at this;exact this.symm
  let⟨kv,e,_,e2,r1,r2,e3⟩:=each j p.1 ha;rw[hj]at e2;have eq2:p.2=[kv.1,kv.2]:=by have:=cy e2;rw[this]
  refine⟨by rw[eq2,fm];show 2<=16777216;decide,[e.key,e.val],by rw[eq2];exact .cons r1 (.cons r2 .nil),⟨_,e3,rfl,⟨0,rfl⟩,rfl⟩⟩
 ·refine MQ (by rw[aq];omega) λi p v hp hvv=>?_;rw[ar]at hvv;let⟨t,ht,rfl⟩:=br.mp hvv;let⟨kv,e,ekv,e2,_⟩:=each i t ht;let⟨p1,p2,kv',rfl,ekv',q1,q2⟩:=ent i p hp;rw[ekv]at ekv';cases ekv'
  have T:=Kp.same (B5 I hpl);exact⟨t,[kv.1,kv.2],rfl,.inl (.inl (E4 nd e2)),q1.mono ba T,q2.mono ba T,trivial⟩
section
variable{x:Str}{st:ud}{q:t7}{fd:e7}{pn:ue Str}{j:Nat}{f:Fn}
def Ew{b:Bool}{kb:Nat}{kw:ue (Str×s_)}(c:Cxt C k X)(D:Def C.K X.mg x st q fd pn)(G:bA X.prog X.w C.K X.mg X.base CX0 j q fd pn (spM C 1 f))(hj:j+2<=k)
  (ha1:∀v,argsOk "sorted" ⟨[v],kw⟩) (ha2:∀v,argsOk "list.sort" ⟨[.ref v],kw⟩) (ht:∀v,Builtin.«list.sort» ⟨[.ref v],kw⟩=ksk_tree v (.ref q) b)
  {pins:g_ 0} {s:tw} {σ:St} {H:Hp} {Q:VK} {v:V} {u:s_} (I:Inv X pins σ H s) (ru:RelV v u) (h:r1 C (iQ f b kb) v H Q):
  wpAny (h_ X) X.A (call (.builtin "sorted") [u] kw) (EP X pins σ Q) X.xe s:=by
 let⟨φ,h,p,rh,rp,po⟩:=h;unfold iQ at po;cases ei:mN p h with
 |none=>rw[ei]at po;exact po.elim
 |some ys=>
 rw[ei]at po;let⟨h64,po⟩:=po.ite;refine call_function_entry_kw kind_sorted plain_sorted entry_sorted (ha1 u) ?_;unfold Builtin.«sorted»;refine aa (m:=checkCount "sorted" 1 1 _) (af ?_);have col:wpAny (h_ X) X.A.in1 (collect u) (λits s1=>∃H1 us,Aa H H1/\Inv X pins σ H1 s1/\aR us its/\RVs C φ H1 ys us) X.xe s:=by
  have lcase:∀{a:t7}{vs:ue V},v=.ref a->SqL C.K H a vs->RVs C φ H ys vs->wpAny (h_ X) X.A.in1 (collect u) (λits s1=>∃H1 us,Aa H H1/\Inv X pins σ H1 s1/\aR us its/\RVs C φ H1 ys us) X.xe s:=λ{a vs} ev sa ra=>by
   subst ev;cases ru
   have sa':SqL X.K H a vs:=by rw[c.K];exact sa
   let⟨its,rv,pl,hz⟩:=I.list sa';refine collect_list pl.isList ?_ (by have:=rv.length;have:=ra.length;rw[fm];omega);exact⟨H,vs,λ_ _ z=>z,I.kept (t':=s.toks) λb o e=>by
    have hlt:b<(e_ s):=bf e
    first
     |(rw[Heap.get?_update_ne _ _ _ _ (bu hlt),og _ _ _ (bu hlt)];exact e)
     |exact ae _ e,rv,ra⟩
  unfold mN at ei;split at ei
  ·rename_i n;let⟨a,ev,ha⟩:=rp;split at ei
   ·rename_i ys' e;cases ei
    let⟨a2,vs,ha2,sa,ra⟩:=cR rh e;rw[ha]at ha2;cases ha2;exact lcase ev sa ra
   ·unfold Cr at ei;split at ei
    ·rename_i d hv;split at ei
     ·rename_i o ho;subst ev;cases ru
      let⟨bb,hb,hH⟩:=rh.at' n a _ ha hv;exact JZ c I rh hb hH ho ei h64
     ·cases ei
    ·cases ei
  ·cases ei
   let⟨a,vs,ev,sa,ra⟩:=rp;exact lcase ev sa.sq ra
  ·cases ei
 refine aa (ji col (λits s1 hh=>?_) λ_ _ z=>z);let⟨H1,us,sm,I1,rv,ry⟩:=hh;have po:=po.weak ba (Kp.same sm);have rh:=rh.same sm;clear sm I;have hlu:us.length=its.length:=rv.length;have hly:ys.length=us.length:=ry.length;refine aa (wpAny_newList ?_ (by rw[fm];omega));have hoL:(s1.heap.push (seqObj "list" its.toArray 0)).get? (e_ s1)=a_ (seqObj "list" its.toArray 0):=bo _ rfl;have keep:∀b o,s1.heap.get? b=a_ o->b≠(e_ s1)/\(s1.heap.push (seqObj "list" its.toArray 0)).get? b=a_ o:=λb o q=>⟨bu (bf q),ae _ q⟩;have fr:∀kS,(e_ s1)<=kS->X.s₀.heap.objs.size<=kS/\kS≠X.env.locals/\(∀x c,X.env.cells.lookup x=a_ c->c≠kS)/\(∀p∈X.pn++pins,p.1≠kS)/\kS∉X.fs:=λkS hk=>Mq I1 hk
 show wpAny _ _ _ _ _ {s1 with heap:=s1.heap.push (seqObj "list" its.toArray 0)}
 refine aa (fo (wpAny_call_entry_kw slot_list_sort ⟨_,hoL,rfl⟩ entry_list_sort ?body (ha2 _)))
 case body=>
  show wpAny (h_ X) X.A.in1.in1 (Builtin.«list.sort» ⟨[.ref (e_ s1)],kw⟩) _ _ _
  rw[ht (e_ s1)];refine G2 (s:={s1 with heap:=s1.heap.push (seqObj "list" its.toArray 0)}) (a:=(e_ s1)) (κ:=tuples' (decide (kb≠2))) (vs:=its) hoL ⋯ (ME C X pins σ φ H1 f b kb ys Q (e_ s1) (e_ s1)) ?h0 ?hget ?turn ?fin
  case h0=>
   intro kS e1 h' kp hk g1 g2;have hk':(e_ s1)<kS:=by have:(s1.heap.push (seqObj "list" its.toArray 0)).objs.size<=kS:=hk;rw[i4]at this;exact this
   have I2:Inv X pins σ H1 {s1 with heap:=h'}:=I1.kept (t':=s1.toks) λb o q=>kp b o (keep b o q).1 (keep b o q).2;have fk:=fr kS (oi hk');have fa:=fr (e_ s1) (bq _);refine⟨hk',H1,φ,h,[],[],I2.pins_of λp hp=>?_,ba,Kp.refl H1,rh,.nil,trivial,po⟩;rcases ai.mp hp with hp|hp
   ·exact I2.pin p (ah _ hp)
   ·rcases bx.mp hp with rfl|hp
    ·exact⟨g2,I1.hok.fresh (oi hk'),fk.2.1,fk.2.2.2.2,oB⟩
    ·rw[cw.mp hp];exact⟨g1,I1.hok.fresh (bq _),fa.2.1,fa.2.2.2.2,oB⟩
  case hget=>rintro kS e1 ks e s' ⟨hz,H',φ',h',zs,ps,I',_⟩;exact⟨ja hz,(I'.pin (s1.heap.objs.size,seqObj "list" #[] e1) (ah _ (ah _ (aj _ aw)))).1,(I'.pin (kS,seqObj "list" ks.toArray e) (ah _ (ah _ aw))).1⟩
  case turn=>intro kS e1 ks e s' y hy hJ;exact JY c D G hj ry rv rfl fr kS e1 ks e s' y hy hJ
  case fin=>
   rintro kS e1 ks e s' hl ⟨hz,H',φ',h',zs,ps,I',pp,tt,rh',rz,rp',po'⟩;have hd:ys.drop ks.length=[]:=List.drop_eq_nil_of_le ⋯;rw[hd]at po';unfold fZ at po';cases es:Bi b kb ps ys with
   |none=>rw[es]at po';exact po'.elim
   |some out=>
   rw[es]at po';unfold Bi at es;split at es
   ·rename_i hc;let⟨hc1,hc2,ok,hc4⟩:=hc;cases es
    have hpz:ps.length=zs.length:=rp'.length;have hzk:zs.length=ks.length:=rz.length;have hu:=c.hu64;have hr:HRs s'.heap ps ks:=xH I' c.K 20 ok.ky rp' rz;have memD:∀i,i<its.length->ps.getD i .non∈ps:=λi hi=>by
     have h1:i<ps.length:=⋯;have:ps.getD i .non=ps[i]:=by simp[h1]
     rw[this];exact de h1
    refine⟨λi j=>ltN (ps.getD i .non) (ps.getD j .non),λi j k hi hj hk h1 h2=>Cg h1 h2,λi j hi hj h=>Ci h,λh2 Q' E' hq=>?_,λi j hi hj Q' hq=>?_,λp g e2 a1 a2 kp he gk=>?_⟩
    ·exact Iy ok.m3 hr ok.fk ⋯ hq
    ·have mi:=memD i hi;have mj:=memD j hj;let⟨bb,hb⟩:=ko.mp (ok.lt _ mi _ mj);have hq:Q' (ltN (ps.getD i .non) (ps.getD j .non)) s':=hq;rw[Gn hb]at hq;let⟨qs,eq,_⟩:=Cj ok.m3 (ok.fk _ mj);exact Ej (n:=19) (by show X.A.units+1+1+19<cLine;omega) (ok.ky _ mi) (ok.ky _ mj) (Cj ok.m3 (ok.fk _ mi)) ⟨qs,eq⟩ (hr.getD ⋯) (hr.getD ⋯) hb hq
    ·have hin:∀i∈p,i<its.length:=λi hi=>by simpa using a1.mem_iff.mp hi
     have fa:=fr (e_ s1) (bq _);have fk:=fr kS (oi hz);have gka:=I'.pin (kS,seqObj "list" ks.toArray e) (ah _ (ah _ aw));have gaa:=I'.pin (s1.heap.objs.size,seqObj "list" #[] e1) (ah _ (ah _ (aj _ aw)));have I5:Inv X pins σ H' s':=I'.unpinned;have I6:=I5.adopt (a:=(e_ s1)) (d:=kS) (o:=.lst (p.map λi=>us.getD i .non)) (h':=g) gaa.2.1 gka.2.1 fa fk (λx o h1 h2 q=>kp x o h1 h2 q) (by refine⟨?_,p.map (λi=>its.getD i cx),e2,uC rv (λi hi=>by have:=hin i hi;omega),he⟩;rw[aq,a1.length_eq,k8,fm];omega)
     refine⟨_,rfl,af ⟨_,rfl,.ref (e_ s1),_,I6,rfl,?_⟩⟩;refine po'.lnew rh' ?_ gaa.2.1;rw[<-Er (b:=b) hc2 ok hc4 (p:=p) (by rw[hly,hlu];exact a1) a2];exact(ry.mono pp tt).pick (λi hi=>by have:=hin i hi;omega)
   ·cases es
end
section
variable{kf:Str}{st:ud}{q:t7}{fd:e7}{pn:ue Str}{j jb:Nat}{f:Fn}{e:uc}{me:Me}{p pos kp kpos rp rpos:Pos}
def K0(h:rd C (pB f b kb me) σ H Q):RA (rd C me) SK σ H λvs H1=>∃x,vs=[x]/\r1 C (iQ f b kb) x H1 Q:=by let⟨φ,δ,h,rh,re,po⟩:=h;refine⟨φ,δ,h,rh,re,(post.bind po).imp ?_⟩;rintro v H1 ⟨φ1,x,h1,p1,t1,rh1,rv1,q1⟩;exact⟨v,rfl,φ1,h1,x,rh1,rv1,q1⟩
def Ex{kb:Nat}(D:Def C.K X.mg kf st q fd pn)(G:bA X.prog X.w C.K X.mg X.base CX0 j q fd pn (spM C 1 f))(he:SE C k X e me)(hb:("sorted" : Str)∈C.bs)(hj:j+2<=k:=by decide)(hg:Gl X "sorted" := by rfl)(hgk:Gl X kf:=by rfl)(hdk:(kf == ("__debug__" : Str))=false:=by decide)
  (hst:da [e] X.env=(false,eval e X.env)::da [] X.env:=by rfl) (hbk:backTo pos (da [e] X.env)=(false,eval e X.env)::backTo pos (da [] X.env):=by rfl) (hpl:(backTo pos (da [e] X.env)).any (·.1)=false:=by rfl):
  SE C k X (.Call (.Name "sorted" p) [e] [⟨a_ "key",.Name kf kp,kpos⟩] pos) (pB f false kb me):=λc pins s σ H Q I h=>by
 refine p4 (tR I hg (c.bn _ hb) PyProof.Rows.Boot.«sorted» ?_ nofun nofun);refine callWith_kw (thn (HG (he c) L4 hst pos pins s σ H _ I (K0 h)) λus s1 hh=>?_) hbk hpl;let⟨vs,H1,I1,rv,x,rfl,r⟩:=hh;let⟨u,rfl,ru⟩:=vals1 rv;refine kws_cons (BR I1 hgk D.mg (kws_nil ?_) hdk)
 show wpAny _ _ (call (.builtin "sorted") [u] [(gf "key",.ref q)]) _ _ _
 exact Ew c D G hj (λv=>ksk_s1 _ _) (λv=>ksk_l1 _ _) (λv=>ksk_t1 _ _) I1 ru r
end
end
section
variable{α:Type}
def MR{key emb:α->PV}{xs:ue α}{Q:PV->PH->Prop}(e:mN x h=a_ (xs.map emb))(h1:xs.length<1000000)(ok:OkN m (xs.map key))(hc:∀a∈xs,∀c∈xs,key a=key c->emb a=emb c)(hf:∀d∈xs,∀h(Q:PV->PH->Prop),(∀h',Ext h h'->Q (key d) h')->(f [emb d] h).W Q)(k:∀(os:ue α) h',Ext h h'->os.Perm xs->os.Pairwise (λa c=>ltN (key c) (key a)=false)->Q (.ref h'.length) (h'++[.lst (os.map emb)])):(iQ f false m x h).W Q:=by
 let⟨os,p,pw,es⟩:=PP h1 ok hc;unfold iQ;rw[e];dsimp only;rw[if_pos (l_ h1)];exact IH xs [] h hf es λh' hx=>k os h' hx p pw
end
section
variable{δ:Ev}{h:PH}{m:Me}
@[simp]theorem zF:pB f b n m δ h=(m δ h).bind λx h1=>iQ f b n x h1:=(rfl)
def GA(e:h[n]?=a_ (.lst xs)):mN (.ref n) h=a_ xs:=by simp[mN,aS,e]
def Ey(e:h[n]?=a_ (.vw 0 d))(e2:h[d]?=a_ o):mN (.ref n) h=uO o:=by simp[mN,aS,Cr,e,e2]
end
end L2
namespace L2
open PySem.W
section
variable{C:MC}{k:Nat}{X:Cx}
def RW:Ms:=λ_ _=>.bad
def Wp{st:ud}:SSt C k X st RW:=λc _ _ σ H _ I h=>by let⟨φ,δ,h,rh,re,p⟩:=h;exact p.elim
end
end L2
namespace L2
section
variable{prog:ub}{w:ua}{K:Type}[DecidableEq K]{knd:HeapKind prog w K}{A:t9}{R:j_ Result}
def Ez{P:Nat->s_->Prop}{St:Nat->t_->Prop}(W:Walks prog w A.in1 I fp wr n P St)(hd:d∉fp)(hu:knd.room A.in1)(ps:ue (t7×K×t7×s_))(hn:ps.length=n)(hP:∀i v,P i v->∃p,ps[i]?=a_ p/\v=.ref p.1)(h0:t_)(hw0:∀b u,h0.get? b=a_ u->b∉wr)(hk:∀h',(∀b u,b≠d->h0.get? b=a_ u->h'.get? b=a_ u)->∀p∈ps,knd.is h' p.2.1 p.2.2.1/\IsTup h' p.1 #[.ref p.2.2.1,p.2.2.2])(res:s_):
  ∀(m i:Nat)(s:tw)(xs:ue (K×t7×s_)),n-i=m->i<=n->St i s.heap->s.heap.DictOfH knd d xs->(∀x∈xs,∀h',(∀b u,b≠d->h0.get? b=a_ u->h'.get? b=a_ u)->knd.is h' x.1 x.2.1)->xs.length+n<=bp+i->(∀b u,b≠d->h0.get? b=a_ u->s.heap.get? b=a_ u)->
  (∀h' tk,h'.DictOfH knd d (wA xs (ps.drop i))->(∀b u,b≠d->h0.get? b=a_ u->h'.get? b=a_ u)->R (.ok (.ret res)) {s with heap:=h',toks:=tk})->
  codeAny (model prog w) A (.builtin "dict.update.loop" ⟨[.ref d,.ref I,rawInt i,res],[]⟩) R s:=by
 have hdw:d∉wr:=λh=>hd (W.sub _ h);intro m
 induction m with
 |zero=>
  intro i s xs hm hi hst hdt hxs hz hit hR;have hin:i=n:=⋯;subst hin;refine jx dJ ?_;rw[gv bG _]
  show wpAny _ A.in1 (pyNext (.ref I) >>= _) _ _ s
  refine aa (W.done s _ _ hst λh' tk hk'=>?_)
  show wpAny _ A.in1 (r9 d [] >>= _) _ _ _
  have h00:∀b u,b≠d->h0.get? b=a_ u->h'.get? b=a_ u:=λb u ne e=>hk' b u (hw0 b u e) (hit b u ne e);have hfin:=hR h' tk (by rw[mf ⋯];let⟨o,es,ep,h1,h2,h3,h4,h5,h6⟩:=hdt;exact⟨o,es,ep,hk' d _ hdw h1,h2,h3,h4,λx hx=>hxs x hx h' h00,h6⟩) h00;exact aa (af (af hfin))
 |succ m ih=>
  intro i s xs hm hi hst hdt hxs hz hit hR;have hlt:i<n:=⋯;refine jx dJ ?_;rw[gv bG _]
  show wpAny _ A.in1 (pyNext (.ref I) >>= _) _ _ s
  refine aa (W.item i s _ _ hlt hst λv h' tk hPv hst' hk'=>?_);let⟨p,hp,rfl⟩:=hP i v hPv;have hpm:=cq hp;have h00:∀b u,b≠d->h0.get? b=a_ u->h'.get? b=a_ u:=λb u ne e=>hk' b u (hw0 b u e) (hit b u ne e);let⟨hki,ob,hb1',hb2,nn,hb3⟩:=hk h' h00 p hpm;have hTy:({s with heap:=h',toks:=tk}:tw).TypeIs (.ref p.1) "tuple" := ⟨ob,hb1',hb2⟩;have hdt':h'.DictOfH knd d xs:=by let⟨o,es,ep,h1,h2,h3,h4,h5,h6⟩:=hdt;exact⟨o,es,ep,hk' d _ hdw h1,h2,h3,h4,λx hx=>hxs x hx h' h00,h6⟩
  refine aa (fo (aa (wpAny_tryCatch ?_)));unfold ti;refine aa (mz hTy ?_);rw[if_pos nofun];refine aa (kg hb1' hb3 (af ?_))
  show wpAny _ _ (holding [.ref p.2.2.1,p.2.2.2] (dictSet d (.ref p.2.2.1) p.2.2.2)) _ _ _
  refine fo (wpAny_dictSet_heap (hsz:=by omega) hu hki hdt' λh2 hd2 hs2=>?_);refine af ⟨kz bG _,?_⟩;have st2:St (i+1) h2:=W.frame (i+1) h' h2 hst' λb hb o e=>(hs2.2 b (λz=>hd (z▸hb))).trans e;refine ih (i+1) _ (storedH xs p.2.1 p.2.2.1 p.2.2.2) ⋯ hlt st2 hd2 (λx hx g hg=>?_) ?_ (λb u ne e=>(hs2.2 b ne).trans (h00 b u ne e)) λh3 tk3 hd3 hk3=>?_
  ·rcases wB hx with⟨y,hy,e1,e2⟩|⟨e1,e2⟩
   ·rw[e1,e2];exact hxs y hy g hg
   ·rw[e1,e2];exact(hk g hg p hpm).1
  ·have:=oE xs p.2.1 p.2.2.1 p.2.2.2;omega
  ·refine hR h3 tk3 ?_ hk3;have hdr:ps.drop i=p::ps.drop (i+1):=by let⟨hl,e⟩:=ab.mp hp;rw[d7 hl,e]
   rw[hdr];exact hd3
def sJ{E:f_ 0}{s:tw}{o:Obj}{ps:ue (t7×K×t7×s_)}{xs:ue (K×t7×s_)}{Q:f_ 0}(hA:A.handled=b_)(hu:knd.room A.in1)(hd0:s.heap.DictOfH knd d xs)(hda:d≠a)(hx:s.heap.get? a=a_ o)(hc:o.cls=.type "list")(hdat:o.data=.seq (ps.map λp=>dh p.1).toArray k)(hd:o.dict=b_)(hxs:∀x∈xs,∀h',(∀b u,b≠d->s.heap.get? b=a_ u->h'.get? b=a_ u)->knd.is h' x.1 x.2.1)(hk:∀h',(∀b u,b≠d->s.heap.get? b=a_ u->h'.get? b=a_ u)->∀p∈ps,knd.is h' p.2.1 p.2.2.1/\IsTup h' p.1 #[.ref p.2.2.1,p.2.2.2])(hz:xs.length+ps.length<=bp)(h:∀h' tk,h'.DictOfH knd d (wA xs ps)->(∀b u,b≠d->s.heap.get? b=a_ u->h'.get? b=a_ u)->Q .none {s with heap:=h',toks:=tk}):
  m_ prog w A (call (.builtin "dict.update") [.ref d,.ref a]) Q E s:=by
 refine wpAny_call (codeAny_call_builtin F.slot_dict_update.plain F.entry_dict_update (F.slot_dict_update.check _ _ _ _ _ _ _ _ hd0.typeIs (F.args_dict_update_2 _ _) ?_));unfold Builtin.«dict.update»;refine aa ?_;unfold se;refine aa (m7 hd0.typeIs (show wpAny _ _ (pure (d,[dh a])) _ _ _ from af ?_))
 show wpAny _ _ (jy "dict.update" d (.ref a) [] .none) _ _ _
 unfold jy;have hTa:s.TypeIs (.ref a) "list" := ⟨o,hx,hc⟩;refine aa (mz hTa ?_);rw[if_pos nofun];refine aa (sH hx hc hdat hd hA λh1 tk1 kp1=>?_);rw[if_pos (by rfl)];refine aa (mq ?_);have ha1:h1.IsList a (ps.map λp=>dh p.1).toArray:=⟨o,kp1 _ _ hx,hc,k,hdat⟩;refine aa (qo (s:={s with heap:=h1,toks:=tk1}) ha1 (af ⟨kz bG _,?_⟩));have hlt:∀b u,s.heap.get? b=a_ u->b<h1.objs.size:=λb u e=>bf (kp1 _ _ e);have dlt:d<h1.objs.size:=by let⟨oo,es,ep,e,_⟩:=hd0;exact hlt _ _ e
 refine Ez (knd:=knd) (fp:=[h1.objs.size,a]) (wr:=[h1.objs.size]) (n:=(ps.map λp=>dh p.1).toArray.size) (Walks.list (A:=A.in1) hA h1.objs.size a (bu (hlt _ _ hx)) (ps.map λp=>dh p.1).toArray) ?_ hu ps (by simp) (λi v e=>?_) s.heap (λb u e=>?_) hk .none _ 0 _ xs (j0 _) (cv _) ?_ ?_ hxs (l_ hz) (λb u _ e=>?_) λh' tk dd kk=>?_
 ·intro z;rcases bx.mp z with z|z
  ·exact bu dlt z
  ·exact hda (cw.mp z)
 ·have e':(ps.map λp=>dh p.1)[i]?=a_ v:=by simpa using e
  rw[ar]at e';let⟨p,hp,rfl⟩:=br.mp e';exact⟨p,hp,rfl⟩
 ·exact λz=>bu (hlt _ _ e) (cw.mp z)
 ·refine⟨⟨_,bo _ rfl,rfl,rfl⟩,?_⟩;let⟨ob,e,r⟩:=ha1;exact⟨ob,ae _ e,r⟩
 ·let⟨oo,es,ep,e,r1,r2,r3,r4,r5⟩:=hd0;exact⟨oo,es,ep,ae _ (kp1 _ _ e),r1,r2,r3,λx hx=>hxs x hx _ λb u _ e=>ae _ (kp1 _ _ e),r5⟩
 ·exact ae _ (kp1 _ _ e)
 ·exact h h' tk (l_ dd) kk
end
section
variable{C:MC}{k:Nat}{X:Cx}{φ:ue t7}{H:Hp}{pins:g_ 0}{σ:St}{s:tw}
theorem wD(I:Inv X pins σ H s)(hK:X.K=C.K):∀{ps:ue PV}{rs:ue (PV×PV)}{vs:ue V}{us:ue s_},gM ps=a_ rs->RVs C φ H ps vs->aR vs us->
  ∃qs:ue (t7×PV×t7×s_),us=qs.map (λq=>dh q.1)/\(∀h',(∀b x,IsTup s.heap b x->IsTup h' b x)->∀q∈qs,(nR X.prog X.w).is h' q.2.1 q.2.2.1/\IsTup h' q.1 #[.ref q.2.2.1,q.2.2.2])/\
   ∀{kvs:ue (PV×PV)}{ks:ue (PV×t7×V)}{xs:ue (PV×t7×s_)},RKd C φ H kvs ks->pP ks xs->∃ks',RKd C φ H (uK kvs rs) ks'/\pP ks' (wA xs qs)
 |[],rs,[],us,e,_,ru=>by
  cases ru
  cases e
  exact⟨[],rfl,(λ_ _ _ h=>nomatch h),λr rx=>⟨_,r,rx⟩⟩
 |p::ps,rs,v::vs,us,e,r,ru=>by
  cases ru with
  | @cons _ u _ us' h t=>
   cases p with
   |tup xs=>
    match xs,e with
    |[y,z],e=>
     unfold gM at e;split at e
     ·rename_i hk;cases e2:gM ps with
      |none=>rw[e2]at e;cases e
      |some rs'=>
       rw[e2]at e;cases e
       let⟨qs,rfl,a1,a2⟩:=wD I hK e2 r.2 t;let⟨b,bs,rfl,sq,rb⟩:=r.1;cases h
       let⟨yv,zv,rfl,ry,rz⟩:=rb.two;rw[<-hK]at sq;let⟨its,rits,pt,_⟩:=I.tuple sq;let⟨yu,zu,rfl,ryu,rzu⟩:=vals2 rits;let⟨c,rfl⟩:=mM hk ry;cases ryu
       have hki:=yS I hK hk ry;refine⟨(b,y,c,zu)::qs,rfl,?_,λ{kvs ks xs} r' rx'=>?_⟩
       ·intro h' kp q hq;rcases bx.mp hq with rfl|hq
        ·exact⟨⟨hki.1,HR.keep kp hki.2⟩,kp _ _ pt⟩
        ·exact a1 h' kp q hq
       ·let⟨ks',r1,r2⟩:=HD.put (a:=b) r' rx' (sD hk) ry rz rzu;exact a2 r1 r2
     ·cases e
    |[],e=>cases e
    |[_],e=>cases e
    |_::_::_::_,e=>cases e
   |_=>cases e
 |[],_,_::_,_,_,r,_=>r.elim
 |_::_,_,[],_,_,r,_=>r.elim
def Bl:PV->ue PV->PH->Rs PV:=λx ps h=>match x,ps with
 |.ref n,[.ref l]=>match bC h n with
  |some kvs=>match h[l]? with
   |some (.lst qs)=>match gM qs with
    |some rs=>if kvs.length+qs.length<=1000000 then .ok .non (h.set n (.dD (uK kvs rs))) else .bad
    |none=>.bad
   |_=>.bad
  |none=>.bad
 |_,_=>.bad
def Q5(c:Cxt C k X):MtR X "dict.update" (rM C Bl):=λpins s σ H x xs v us Q I rx rs h=>by
 let⟨φ,h,p,ps,rh,rp,rps,po⟩:=h;unfold Bl at po;split at po
 ·rename_i n l;let⟨a,rfl,ha⟩:=rp;cases rx
  let⟨yv,rfl,ry⟩:=rps.one;let⟨yu,rfl,ryu⟩:=vals1 rs;split at po
  ·rename_i kvs ht;split at po
   ·rename_i qs hq;split at po
    ·rename_i rs' e;let⟨hz0,po⟩:=po.ite;let⟨b,rfl,hb⟩:=ry;cases ryu
     let⟨⟨ks,xs,r,rx',hz,hm,dd⟩,mu,nt⟩:=sE I c.K c.w rh ha ht;let⟨vs,hH,rvs⟩:=rh.at' l b _ hb hq;let⟨hzl,its,m,rits,hl,hx⟩:=I.lstM hH;let⟨qs',rfl,a1,a2⟩:=wD I c.K e rvs rits;have lk:=ft r;have lx:=ft rx';have lv:=rvs.length;rw[aq]at hl;let⟨o0,es0,ep0,hq0,h20,h30,h40,h50,h60⟩:=dd;have dt:∀b x,b=a->¬ IsTup s.heap b x:=λb x e ⟨o',e1,e2,_⟩=>by
      rw[e,hq0]at e1;cases e1
      rw[h20.1]at e2;simp at e2
     have kt:∀h',(∀b u,b≠a->s.heap.get? b=a_ u->h'.get? b=a_ u)->∀b x,IsTup s.heap b x->IsTup h' b x:=λh' kp b x it=>by have ne:b≠a:=λz=>dt b x z it;let⟨o',e1,r'⟩:=it;exact⟨o',kp _ _ ne e1,r'⟩
     have nab:a≠b:=λz=>by
      rw[z,hx]at hq0;cases hq0
      have z2:=h20.1;simp at z2
     have rm:(nR X.prog X.w).room X.A.in1:=by
      have:=c.hu64
      show X.A.units+1+6<cLine
      omega
     refine sJ (knd:=nR X.prog X.w) (I.ok.hd c.calm) rm ⟨o0,es0,ep0,hq0,h20,h30,h40,h50,h60⟩ nab hx rfl rfl rfl (λx hx' h' kp=>⟨(h50 x hx').1,HR.keep (kt h' kp) (h50 x hx').2⟩) (λh' kp=>a1 h' (kt h' kp)) (by rw[fm];omega) λh' tk dd' kk=>?_;let⟨ks',r1,r2⟩:=a2 r rx';let⟨o,es,ep,hq',h2,h3,h4,_,h5⟩:=dd';have hl2:ks'.length<=bp:=by have e1:=ft r2;have e2:=uL qs' xs;rw[fm];omega
     refine⟨.non,upd H a (dDO C.w a ks'),I.write (x:=a) (e:=a) mu (.inl rfl) kk ⟨o,hq'⟩ ⟨⟨hl2,hm,_,r2,o,es,ep,hq',h2,h3,?_,h5⟩,⟨o,hq'⟩,?_⟩,rfl,?_⟩
     ·rw[h4,<-c.w];rfl
     ·rintro g1 g2 ⟨z1,z2,ws,z3,o',es',ep',z4,z5⟩ keep;exact⟨z1,z2,ws,z3,o',es',ep',keep _ z4,z5⟩
     ·exact po φ .non _ ba (Kp.upd nt) (rh.write ha nt ⟨ks',bE,RKd.mono ba (Kp.upd nt) r1⟩) rfl
    ·exact po.elim
   ·exact po.elim
  ·exact po.elim
 ·exact po.elim
def U3:MtG C k X "dict" nD "dict.update" Bl:=λc=>⟨Q5 c,yT c⟩
end
def MS{h:PH}{kvs:ue (PV×PV)}{qs:ue PV}(ht:bC h n=a_ kvs)(hl:h[l]?=a_ (.lst qs))(e:gM qs=a_ rs)(hz:kvs.length+qs.length<=1000000):Bl (.ref n) [.ref l] h=.ok .non (h.set n (.dD (uK kvs rs))):=by unfold Bl;simp only[ht,hl,e,hz,if_true]
end L2
namespace K39
open PySem L2
local macro_rules|`(q_ $x)=>`(mC (.int $x))
noncomputable section
def K1:Ms:=fJ
def II:Ms:=(LP 1000000 (aU (mC (.bl true))) K1)
def IJ:Fn:=mFn 1 II
def uQ:Ms:=(dH (aD bO (mV 0) (bW (aA (bW (aA (q_ 0) aF)) aF))))
def gO:Fn:=mFn 1 uQ
def qN:Ms:=(dH (cG 1 gO (aA (aD vAt (mV 0) (q_ 0)) aF)))
def eJ:Fn:=mFn 1 qN
def zG:Ms:=(dH (aD jV (cG 1 gO (aA (mV 0) aF)) (cG 1 gO (aA (mV 1) aF))))
def oG:Fn:=mFn 2 zG
def MT:Ms:=
 (aL (eG (aU (aD vIs (mV 1) (mC .non)))
  (dH (bW (aA (mV 0) (aA (q_ 1) aF))))
  fJ)
 (aL (eG (Eb (aU (cG 2 oG (aA (mV 0) (aA (mV 1) aF)))))
  RW
  fJ)
 (aL (eG (aU (aD vEq (mSl (mV 1) Th (mP (mCB gH (aA (mV 0) aF)))) (mV 0)))
  (dH (bW (aA (mV 1) (aA (mUn Pj (q_ 1)) aF))))
  fJ)
 (dH (bW (aA (mV 0) (aA (q_ 1) aF)))))))
def Bm:Fn:=mFn 2 MT
def qO:Ms:=
 (aL (uD (mV 0) (gTp 2 (gCn (gN 2) (gCn (gN 3) gNl))))
 (aL (uD (mV 1) (gTp 2 (gCn (gN 4) (gCn (gN 5) gNl))))
 (dH (aD bO (mV 2) (bW (aA (bW (aA (mV 3) (aA (mV 4) (aA (mV 5) (aA (q_ 0) aF))))) aF))))))
def jF:Fn:=mFn 6 qO
def pU:Ms:=(mJ (mMt isL (onL dE) (mV 11) (aA (aD bO (aD vAt (mV 11) (aD Ah (mV 12) (q_ 1))) (bW (aA (bW (aA (q_ 1) (aA (mV 9) (aA (mV 10) (aA (mV 12) aF))))) aF))) aF)))
def oH:Ms:=
 (aL (uD (mV 0) (gTp 3 (gCn (gN 1) (gCn (gN 2) (gCn (gN 3) gNl)))))
 (aL (uD (mV 3) (gTp 5 (gCn (gN 4) (gCn (gN 5) (gCn (gN 6) (gCn (gN 7) (gCn (gN 8) gNl)))))))
 (aL (uD (mV 1) (gTp 2 (gCn (gN 9) (gCn (gN 10) gNl))))
 (aL (bD 11 (fU (aA (cG 2 jF (aA (bW (aA (mV 6) (aA (mV 7) aF))) (aA (mV 1) aF))) aF)))
 (aL (eN (Ij (aA (q_ 1) (aA (mCB gH (aA (mV 8) aF)) aF))) (gN 12) pU)
 (dH (mV 11)))))))
def iB:Fn:=mFn 13 oH
def gP:Ms:=(IC "kept" (mV 0) yP)
def aM:Fn:=mFn 1 gP
def nG:Ms:=(vZ (mV 4) (mUn (wV "kept") (mV 0)) (mV 3))
def kC:Ms:=
 (aL (bD 2 (aD vAt (aD vAt (mV 1) (q_ 2)) (q_ 4)))
 (eN (Q4 (aA (cG 1 iB (aA (mV 1) aF)) (aA (mV 2) aF))) (gTp 2 (gCn (gN 3) (gCn (gN 4) gNl))) nG))
def dN:Fn:=mFn 5 kC
def kD:Ms:=
 (eG (aU (aD fN (mV 3) (mUn (wV "kept") (mV 0))))
   (mJ (mMt isL (onL dE) (mV 2) (aA (bW (aA (mV 3) (aA (mMt nD Bj (mUn (wV "kept") (mV 0)) (aA (mV 3) aF)) aF))) aF)))
   fJ)
def oI:Ms:=
 (aL (bD 2 (fU aF))
 (aL (eN (aZ (mV 1)) (gN 3) kD)
 (dH (pB eJ false 2 (mV 2)))))
def fO:Fn:=mFn 4 oI
def mO:Ms:=(dH (pB eJ false 2 (Pn nD pA (mUn (wV "kept") (mV 0)))))
def aQ:Fn:=mFn 1 mO
def Cs:Ms:=
 (aL (eG (kO (aU (aD vEq (aD fB (mV 0) (q_ 2)) (q_ 1))) (aU (aD vGt (mV 0) (aD LG (q_ 10) (q_ 9)))))
  (dH (aD fB (aD jO (mV 0) (q_ 2)) (aD LG (q_ 10) (q_ 9))))
  fJ)
 (aL (bD 2 (aD fB (aD G5 (aD bO (aD bO (mV 0) (aD G5 (q_ 7919) (mV 1))) (q_ 1)) (q_ 48271)) (q_ 2147483647)))
 (dH (aD fB (aD G5 (mV 2) (aD bO (aD jO (mV 2) (q_ 1009)) (q_ 69621))) (q_ 2147483647)))))
def mQ:Fn:=mFn 3 Cs
def Bn:Ms:=
 (aL (bD 5 (aD vAt (mC (.str "abcdefghijklmnopqrstuvwxyz")) (aD fB (aD bO (aD jO (mV 0) (q_ 64)) (aD G5 (mV 4) (aD bO (q_ 1) (aD fB (aD jO (mV 0) (q_ 3)) (q_ 8))))) (q_ 26))))
  (mJ (mMt isL (onL dE) (mV 3) (aA (aD bO (aD bO (aD JN (mC (.str "k")) (mV 2)) (mV 5)) (aD JN (mC (.str "k")) (aD Ah (aD Ah (mV 1) (q_ 1)) (mV 2)))) aF))))
def Ct:Ms:=
 (aL (bD 1 (aD bO (q_ 1) (aD fB (mV 0) (q_ 8))))
 (aL (bD 2 (aD fB (aD jO (mV 0) (q_ 8)) (mV 1)))
 (aL (bD 3 (fU aF))
 (aL (eN (vS (aA (q_ 3) aF)) (gN 4) Bn)
 (dH (mV 3))))))
def mR:Fn:=mFn 6 Ct
def Bo:Ms:=
 (aL (bD 0 (aD fB (aD bO (aD G5 (mV 0) (q_ 48271)) (q_ 11)) (q_ 2147483647)))
  (bD 3 (aD bO (mV 3) (aD vAt (mV 2) (aD fB (mV 0) (q_ 94))))))
def Cu:Ms:=
 (aL (bD 2 (mC (.str " !\"#$&'()*+,-./0123456789:;<=>?@ABCDEFGHIJKLMNOPQRSTUVWXYZ[\\]^_`")))
 (aL (bD 2 (aD bO (mV 2) (mC (.str "abcdefghijklmnopqrstuvwxyz{|}~"))))
 (aL (bD 3 (mC (.str "")))
 (aL (eN (vS (aA (mV 1) aF)) (gN 4) Bo)
 (dH (mV 3))))))
def sL:Fn:=mFn 5 Cu
def GB:Ms:=
 (aL (bD 3 (cK [b_,a_ 2] (aZ (mCB qJ (aA (mV 0) aF))) (gN 0) uF (bW (aA (mV 0) (aA (mCB gH (aA (cK [b_,a_ 0] (aZ (mV 1)) (gN 0) (aU (aD vEq (aD vAt (aD vAt (mV 0) (q_ 0)) (q_ 0)) (mV 1))) (mV 0)) aF)) aF)))))
 (aL (bD 4 (aD bO (q_ 1) (mCB gH (aA (cK [b_,a_ 0,a_ 1] (aZ (mV 2)) (gN 0) (aU (aD vEq (aD vAt (aD vAt (mV 0) (q_ 0)) (q_ 0)) (aD vAt (mV 1) (mV 2)))) (mV 0)) aF))))
 (dH (bW (aA (bW (aA (aD vAt (mV 0) (mV 1)) (aA (mV 4) aF))) (aA (mCB nT (aA (cK [b_] (aZ (mV 3)) (gN 0) (aU (aD vGt (aD vAt (mV 0) (q_ 1)) (q_ 0))) (mV 0)) aF)) aF))))))
def uR:Fn:=mFn 5 GB
def Cv:Ms:=
 (aL (bD 5 (cG 2 mQ (aA (mV 4) (aA (q_ 1) aF))))
 (aL (uD (cG 3 uR (aA (mV 0) (aA (mV 1) (aA (mV 2) aF)))) (gTp 2 (gCn (gN 6) (gCn (gN 7) gNl))))
 (aL (eG (kO (aU (aD vEq (aD fB (mV 5) (q_ 4)) (q_ 0))) (aU (aD vNe (mV 3) (fU aF))))
  (aL (bD 8 (aD fB (aD jO (mV 5) (q_ 4)) (mCB gH (aA (mV 3) aF))))
  (dH (bW (aA (bW (aA (mV 6) (aA (mV 7) (aA (bW (aA (mC (.str "cut")) (aA (bW (aA (mC (.str "t")) (aA (q_ 1) aF))) (aA (mCB nT (aA (mSl (mV 3) (mP (mV 8)) (mP (aD bO (aD bO (mV 8) (q_ 1)) (aD fB (aD jO (mV 5) (q_ 301)) (q_ 4))))) aF)) aF)))) aF)))) (aA (bW aF) (aA (mC .non) aF))))))
  fJ)
 (aL (bD 8 (aD fB (aD jO (mV 5) (q_ 4)) (aD bO (mCB gH (aA (mV 3) aF)) (q_ 1))))
 (aL (bD 9 (bW aF))
 (aL (bD 10 (mC .non))
 (aL (eG (aU (aD vGt (mV 8) (q_ 0)))
  (bD 9 (aD vAt (mV 3) (aD Ah (mV 8) (q_ 1))))
  fJ)
 (aL (eG (aU (aD jV (mV 8) (mCB gH (aA (mV 3) aF))))
  (bD 10 (aD vAt (mV 3) (mV 8)))
  fJ)
 (aL (bD 11 (aD bO (q_ 1) (aD fB (aD jO (mV 5) (q_ 307)) (q_ 4))))
 (aL (eG (aU (aD vEq (aD fB (aD jO (mV 5) (q_ 1301)) (q_ 8)) (q_ 5)))
  (bD 11 (q_ 12))
  fJ)
 (aL (eG (aU (aD vGt (mCB gH (aA (mV 3) aF)) (q_ 150)))
  (bD 11 (q_ 1))
  fJ)
 (aL (uD (cG 2 Bm (aA (mV 9) (aA (mV 10) aF))) (gTp 2 (gCn (gN 12) (gCn (gN 13) gNl))))
 (dH (bW (aA (bW (aA (mV 6) (aA (mV 7) (aA (bW (aA (mC (.str "write")) (aA (bW (aA (mC (.str "t")) (aA (q_ 1) aF))) (aA (mV 12) (aA (mV 13) (aA (cG 2 sL (aA (mV 5) (aA (mV 11) aF))) aF)))))) aF)))) (aA (mV 9) (aA (mV 10) aF)))))))))))))))))
def xI:Fn:=mFn 14 Cv
def Bp:Str->uf Fn:=λ(z:Str)=>if z=("Signs" : Str) then a_ dN else(λ_=>b_) z
def Bq:Str->uf Fn:=λ(z:Str)=>if z=("Signs" : Str) then a_ fO else(λ_=>b_) z
def GC:Ms:=
 (eG (aU (aD vEq (aD vAt (aD vAt (mV 1) (q_ 2)) (q_ 0)) (mC (.str "write"))))
  (mJ (dX "write" 1 Bp (mV 0) (aA (mV 1) aF)))
  (mJ (dX "cut" 1 Bq (mV 0) (aA (aD vAt (aD vAt (mV 1) (q_ 2)) (q_ 2)) aF))))
def oJ:Fn:=mFn 2 GC
def pC:Str->uf Fn:=λ(z:Str)=>if z=("Signs" : Str) then a_ aQ else(λ_=>b_) z
def uS:Str->uf Fn:=λ(z:Str)=>if z=("Signs" : Str) then a_ aQ else(λ_=>b_) z
def pD:Str->uf Fn:=λ(z:Str)=>if z=("Signs" : Str) then a_ aQ else(λ_=>b_) z
def kY:Str->uf Fn:=λ(z:Str)=>if z=("Signs" : Str) then a_ aQ else(λ_=>b_) z
def MU:Ms:=(mJ (cG 2 oJ (aA (aD vAt (mV 0) (mV 3)) (aA (mV 8) aF))))
def MV:Ms:=(mJ (cG 2 oJ (aA (aD vAt (mV 0) (mV 2)) (aA (mV 8) aF))))
def zH:Ms:=
 (aL (bD 12 (mCB oF (aA (cK [b_] (aZ (mV 11)) (gN 0) uF (bW (aA (mV 0) (aA (mC (.bl true)) aF)))) aF)))
  (eG (aU (aD vNe (cK [b_,a_ 10] (aZ (mV 11)) (gN 0) (aU (aD fN (mV 0) (mV 1))) (mV 0)) (cK [b_,a_ 12] (aZ (mV 9)) (gN 0) (aU (aD fN (mV 0) (mV 1))) (mV 0))))
   (dH (mC (.bl false)))
   fJ))
def GD:Ms:=
 (aL (bD 4 (dX "rows" 0 pC (aD vAt (mV 0) (mV 2)) aF))
 (aL (bD 5 (dX "rows" 0 uS (aD vAt (mV 0) (mV 3)) aF))
 (aL (bD 6 (cK [b_,a_ 1,a_ 3] (aZ (aD vAt (mV 1) (mV 2))) (gN 0) (aU (aD cD (mV 0) (aD vAt (mV 1) (mV 2)))) (mV 0)))
 (aL (bD 7 (cK [b_,a_ 1,a_ 2] (aZ (aD vAt (mV 1) (mV 3))) (gN 0) (aU (aD cD (mV 0) (aD vAt (mV 1) (mV 2)))) (mV 0)))
 (aL (eN (aZ (mV 6)) (gN 8) MU)
 (aL (eN (aZ (mV 7)) (gN 8) MV)
 (aL (vZ (aD bO (aD vAt (mV 1) (mV 3)) (mV 6)) (mV 1) (mV 3))
 (aL (vZ (aD bO (aD vAt (mV 1) (mV 2)) (mV 7)) (mV 1) (mV 2))
 (aL (bD 9 (dX "rows" 0 pD (aD vAt (mV 0) (mV 2)) aF))
 (aL (eG (aU (aD vNe (mV 9) (dX "rows" 0 kY (aD vAt (mV 0) (mV 3)) aF)))
  (dH (mC (.bl false)))
  fJ)
 (aL (bD 10 (mCB oF (aA (cK [b_] (aZ (mV 9)) (gN 0) uF (bW (aA (mV 0) (aA (mC (.bl true)) aF)))) aF)))
 (aL (eN (aZ (fU (aA (mV 4) (aA (mV 5) aF)))) (gN 11) zH)
 (dH (mC (.bl true)))))))))))))))
def uT:Fn:=mFn 13 GD
def wF:Ms:=
 (aL (bD 4 (aD bO (mV 4) (bW (aA (bW (aA (mV 5) (aA (aD vAt (mV 1) (q_ 0)) (aA (aD vAt (mV 1) (q_ 1)) (aA (mV 7) aF))))) aF))))
  (aL (bD 5 (q_ 1))
  (mJ (mMt isL (onL dE) (mV 6) (aA (bW (aA (mV 4) (aA (aD vAt (aD vAt (mV 3) (q_ 4)) (mV 7)) aF))) aF)))))
def uU:Ms:=
 (aL (uD (mV 0) (gTp 3 (gCn (gN 1) (gCn (gN 2) (gCn (gN 3) gNl)))))
 (aL (bD 4 (aD vAt (mV 3) (q_ 2)))
 (aL (bD 5 (aD vAt (mV 3) (q_ 3)))
 (aL (bD 6 (fU aF))
 (aL (eN (vS (aA (mCB gH (aA (aD vAt (mV 3) (q_ 4)) aF)) aF)) (gN 7) wF)
 (dH (mV 6)))))))
def gQ:Fn:=mFn 8 uU
def jG:Ms:=
 (eG (aU (aD vEq (aD vAt (aD vAt (mV 5) (q_ 2)) (q_ 0)) (mC (.str "cut"))))
   (mJ (mMt nD Bl (mV 3) (aA (cK [b_] (aZ (aD vAt (aD vAt (mV 5) (q_ 2)) (q_ 2))) (gN 0) uF (bW (aA (mV 0) (aA (mC (.bl true)) aF)))) aF)))
   (bD 4 (aD bO (mV 4) (cG 1 gQ (aA (mV 5) aF)))))
def gA:Ms:=(vZ (mV 7) (mV 6) (aD vAt (aD vAt (mV 0) (mV 7)) (q_ 0)))
def jH:Ms:=
 (aL (eG (kO (aU (aD fN (mV 10) (mV 6))) (kO (aU (aD fN (mV 8) (mV 6))) (aU (aD vGt (aD vAt (mV 6) (mV 8)) (aD vAt (mV 6) (mV 10))))))
    (dH (mC (.bl false)))
    fJ)
   (eG (kO (aU (aD fN (mV 10) (mV 6))) (kO (aU (aD fN (mV 9) (mV 6))) (aU (aD jV (aD vAt (mV 6) (mV 9)) (aD vAt (mV 6) (mV 10))))))
    (dH (mC (.bl false)))
    fJ))
def jI:Ms:=(eN (aZ (cG 1 gQ (aA (mV 5) aF))) (gTp 2 (gCn (gN 10) (gCn (gN 11) gNl))) jH)
def mS:Ms:=
 (aL (bD 3 yP)
 (aL (bD 4 (fU aF))
 (aL (eN (aZ (mV 1)) (gN 5) jG)
 (aL (eG (aU (aD vNe (mCB hW (aA (mV 0) aF)) (mCB hW (aA (cK [b_,a_ 3] (aZ (mV 4)) (gN 0) (aU (aD cD (aD vAt (mV 0) (q_ 0)) (mV 1))) (mV 0)) aF))))
  (dH (mC (.bl false)))
  fJ)
 (aL (bD 6 yP)
 (aL (eN (vS (aA (mCB gH (aA (mV 0) aF)) aF)) (gN 7) gA)
 (aL (eN (aZ (mV 2)) (gTp 3 (gCn (gN 5) (gCn (gN 8) (gCn (gN 9) gNl)))) jI)
 (dH (mC (.bl true))))))))))
def gB:Fn:=mFn 12 mS
def zI:Str->uf Fn:=λ(z:Str)=>if z=("Signs" : Str) then a_ aQ else(λ_=>b_) z
def sM:Str->uf Fn:=λ(z:Str)=>if z=("Signs" : Str) then a_ aQ else(λ_=>b_) z
def sN:Str->uf Fn:=λ(z:Str)=>if z=("Signs" : Str) then a_ aQ else(λ_=>b_) z
def sO:Str->uf Fn:=λ(z:Str)=>if z=("Signs" : Str) then a_ aQ else(λ_=>b_) z
def sP:Ms:=
 (aL (bD 6 (aD fB (mV 1) (q_ 3)))
  (eG (aU (aD vEq (aD fB (aD jO (mV 1) (q_ 3)) (q_ 4)) (q_ 3)))
   (eG (Eb (aU (cG 4 uT (aA (mV 3) (aA (mV 4) (aA (mV 6) (aA (aD fB (aD bO (aD bO (mV 6) (q_ 1)) (aD fB (aD jO (mV 1) (q_ 12)) (q_ 2))) (q_ 3)) aF)))))))
    (dH (mC (.bl false)))
    fJ)
   (aL (bD 7 (cK [b_,b_] (aZ (dX "rows" 0 zI (aD vAt (mV 3) (mV 6)) aF)) (gTp 2 (gCn (gN 0) (gCn (gN 1) gNl))) uF (mV 0)))
   (aL (uD (cG 5 xI (aA (mV 2) (aA (mV 6) (aA (aD vAt (mV 4) (mV 6)) (aA (mV 7) (aA (aD jO (mV 1) (q_ 12)) aF)))))) (gTp 3 (gCn (gN 8) (gCn (gN 9) (gCn (gN 10) gNl)))))
   (aL (mJ (cG 2 oJ (aA (aD vAt (mV 3) (mV 6)) (aA (mV 8) aF))))
   (aL (mJ (mMt isL (onL dE) (aD vAt (mV 4) (mV 6)) (aA (mV 8) aF)))
   (eG (aU (aD vEq (aD vAt (aD vAt (mV 8) (q_ 2)) (q_ 0)) (mC (.str "write"))))
    (mJ (mMt isL (onL dE) (mV 5) (aA (bW (aA (mV 8) (aA (mV 9) (aA (mV 10) aF)))) aF)))
    fJ)))))))
def xJ:Ms:=
 (eG (Eb (aU (cG 4 uT (aA (mV 3) (aA (mV 4) (aA (mV 11) (aA (mV 12) aF)))))))
   (dH (mC (.bl false)))
   fJ)
def MW:Ms:=
 (aL (bD 1 (q_ 0))
 (aL (eG (aU (aD vGt (mCB gH (aA (mV 0) aF)) (q_ 0)))
  (bD 1 (aD vAt (mV 0) (q_ 0)))
  fJ)
 (aL (bD 2 (cG 1 mR (aA (mV 1) aF)))
 (aL (bD 3 (fU (aA (nF "Signs" 0 aM aF) (aA (nF "Signs" 0 aM aF) (aA (nF "Signs" 0 aM aF) aF)))))
 (aL (bD 4 (fU (aA (fU aF) (aA (fU aF) (aA (fU aF) aF)))))
 (aL (bD 5 (fU aF))
 (aL (eN (aZ (mSl (mV 0) (mP (q_ 1)) (mP (q_ 37)))) (gN 1) sP)
 (aL (eN (aZ (fU (aA (bW (aA (q_ 0) (aA (q_ 1) aF))) (aA (bW (aA (q_ 0) (aA (q_ 2) aF))) (aA (bW (aA (q_ 1) (aA (q_ 0) aF))) aF))))) (gTp 2 (gCn (gN 11) (gCn (gN 12) gNl))) xJ)
 (aL (bD 13 (dX "rows" 0 sM (aD vAt (mV 3) (q_ 2)) aF))
 (aL (eG (JH (aU (aD vNe (dX "rows" 0 sO (aD vAt (mV 3) (q_ 1)) aF) (mV 13))) (aU (aD vNe (dX "rows" 0 sN (aD vAt (mV 3) (q_ 0)) aF) (mV 13))))
  (dH (mC (.bl false)))
  fJ)
 (dH (cG 3 gB (aA (mV 13) (aA (aD vAt (mV 4) (q_ 2)) (aA (mV 5) aF)))))))))))))))
def MX:Fn:=mFn 14 MW
end
structure St where
 s:Int
 h:Str
 n:Int
 k:Int
 deriving DecidableEq
local macro_rules|`(k_ 0)=>`(List (List St×Nat))
def stp(x:St):PV:=.tup [.int x.s,.str x.h,.int x.n,.int x.k]
def Cw(h:stp x=stp y):x=y:=by let⟨a,b,c,d⟩:=x;let⟨a',b',c',d'⟩:=y;simp[stp]at h;simp[h]
def pl(xs:ue St):PV:=.tup (xs.map stp)
def iG(h:pl xs=pl ys):xs=ys:=by
 have h:xs.map stp=ys.map stp:=by simpa[pl] using h
 induction xs generalizing ys with
 |nil=>cases ys <;> simp at h⊢
 |cons x xs ih=>
  cases ys with
  |nil=>simp at h
  |cons y ys=>simp at h;rw[Cw h.1,ih (by simp[pl,h.2]) h.2]
def MY(xs:ue St):(pl xs).pl 40=true:=by
 show(xs.map stp).all (PV.pl 39)=true
 rw[ay];intro p hp;let⟨x,_,rfl⟩:=bz.mp hp;rfl
abbrev sQ:PV:=.tup [.int 0]
def uV(x y:St):Bool:=if x.s=y.s then(if x.h=y.h then(if x.n=y.n then decide (x.k<y.k) else decide (x.n<y.n)) else decide (x.h.cps.toList<y.h.cps.toList)) else decide (x.s<y.s)
def bef:ue St->ue St->Bool
 |[],[]=>false
 |[],y::_=>decide (0<=y.s)
 |x::_,[]=>decide (x.s<0)
 |x::xs,y::ys=>if x=y then bef xs ys else uV x y
def MZ(n:Nat)(x y:St)(hne:x≠y):ltP (n+1) (stp x) (stp y)=a_ (uV x y):=by
 let⟨a,b,c,d⟩:=x;let⟨a',b',c',d'⟩:=y;by_cases h1:a=a'
 ·by_cases h2:b=b'
  ·by_cases h3:c=c'
   ·by_cases h4:d=d'
    ·exact absurd (by simp[h1,h2,h3,h4]) hne
    ·simp[ltP,ltL,stp,uV,h1,h2,h3,h4]
   ·simp[ltP,ltL,stp,uV,h1,h2,h3]
  ·simp[ltP,ltL,stp,uV,h1,h2]
 ·simp[ltP,ltL,stp,uV,h1]
theorem Cy(n:Nat):∀xs ys:ue St,ltL (ltP (n+2)) (xs.map stp++[sQ]) (ys.map stp++[sQ])=a_ (bef xs ys)
 |[],[]=>by simp[ltL,bef]
 |[],y::ys=>by
  have hne:sQ≠stp y:=by simp[stp,sQ]
  simp only[List.map_nil,jd,dn,j2,ltL,if_neg hne,bef];simp only[ltP,stp,ltL];by_cases h:(0:Int)=y.s
  ·simp[<-h]
  ·have:decide ((0:Int)<y.s)=decide (0<=y.s):=by rw[gb];simp;omega
   simp[h,this]
 |x::xs,[]=>by
  have hne:stp x≠sQ:=by simp[stp,sQ]
  simp only[List.map_nil,jd,dn,j2,ltL,if_neg hne,bef];simp only[ltP,stp,ltL];by_cases h:x.s=0
  ·simp[h]
  ·simp[h]
 |x::xs,y::ys=>by
  simp only[dn,j2,ltL,bef];by_cases h:x=y
  ·subst h;simp only[if_true];exact Cy n xs ys
  ·rw[if_neg λz=>h (Cw z),if_neg h];exact MZ (n+1) x y h
def IK(xs:ue St):(PV.tup (xs.map stp++[sQ])).pl 40=true:=by
 show(xs.map stp++[sQ]).all (PV.pl 39)=true
 rw[List.all_append,cg];exact⟨MY xs,rfl⟩
def IL(xs:ue St)(h:PH)(hx:xs.length<=1000):gO [pl xs] h=.ok (.tup (xs.map stp++[sQ])) h:=by
 have w:(gO [pl xs] h).W λp h'=>p=.tup (xs.map stp++[sQ])/\h'=h:=by refine kW ?_;simp(disch:=first|omega|(simp;omega)) [uQ,pl]
 let⟨p,h',e,rfl,rfl⟩:=rT w;exact e
def N0{a b:Str}(h:a.cps.toList=b.cps.toList):a=b:=by
 let⟨x⟩:=a;let⟨y⟩:=b;congr 1;exact qz.mp h
def K2{a b:ue Nat}(h:a<b):¬ b<a:=List.lt_asymm h
def Q6{a b:ue Nat}(h:¬ a<b)(h':¬ b<a):a=b:=List.le_antisymm h' h
def N1{x y:St}(h:x≠y):uV y x=!uV x y:=by
 let⟨a,b,c,d⟩:=x;let⟨a',b',c',d'⟩:=y;unfold uV;by_cases h1:a=a'
 ·subst h1;by_cases h2:b=b'
  ·subst h2;by_cases h3:c=c'
   ·subst h3;have h4:d≠d':=λz=>h (by rw[z]);simp;rw[gb];simp;omega
   ·have h3':¬ c'=c:=λz=>h3 z.symm;simp[h3,h3'];rw[gb];simp;omega
  ·have h2':¬ b'=b:=λz=>h2 z.symm;have n1:b.cps.toList≠b'.cps.toList:=λz=>h2 (N0 z);simp[h2,h2'];rw[gb];simp only[decide_eq_true_eq,k6,decide_eq_false_iff_not];constructor
   ·intro z;exact K2 z
   ·intro z;rcases Classical.em (b'.cps.toList<b.cps.toList) with q|q
    ·exact q
    ·exact absurd (Q6 z q) n1
 ·have h1':¬ a'=a:=λz=>h1 z.symm;simp[h1,h1'];rw[gb];simp;omega
theorem zJ:∀xs:ue St,bef xs xs=false
 |[]=>rfl
 |x::xs=>by simp[bef,zJ xs]
theorem Cz:∀{xs ys:ue St},xs≠ys->bef ys xs=!bef xs ys
 |[],[],h=>absurd rfl h
 |[],y::ys,_=>by simp only[bef];rw[gb];simp
 |x::xs,[],_=>by simp only[bef];rw[gb];simp
 |x::xs,y::ys,h=>by
  simp only[bef];by_cases e:x=y
  ·subst e;simp only[if_true];exact Cz λz=>h (by rw[z])
  ·rw[if_neg e,if_neg λz=>e z.symm];exact N1 e
def N2:(gf "").cps.toList=[]:=by decide +kernel
def EA{x:Str}:(x++(⟨#[c]⟩:Str)).length=x.length+1:=by rw[Str.length_append];rfl
def app_list(x y:Str):(x++y).cps.toList=x.cps.toList++y.cps.toList:=PySem.W.KT.app_list x y
def N3(u:ue St)(s n:Int)(hd:Str)(h:PH)(hu:u.length<=1000):jF [.tup [pl u,.int s],.tup [.str hd,.int n]] h=.ok (pl (u++[⟨s,hd,n,0⟩])) h:=by
 have w:(jF [.tup [pl u,.int s],.tup [.str hd,.int n]] h).W λp h'=>p=pl (u++[⟨s,hd,n,0⟩])/\h'=h:=by refine kW ?_;simp(disch:=first|omega|(simp;omega)) [qO,nX,pl,stp]
 let⟨p,h',e,rfl,rfl⟩:=rT w;exact e
def kZ(u:ue St)(s:Int)(hd:Str)(n:Int):Nat->ue St
 |0=>u++[⟨s,hd,n,0⟩]
 |k+1=>kZ u s hd n k++[⟨1,hd,n,((k+1:Nat):Int)⟩]
def gR(u:ue St)(s:Int)(hd:Str)(n:Int)(m:Nat):ue (ue St):=(fg m).map (kZ u s hd n)
def lC:(gR u s hd n m).length=m:=by simp[gR]
def N4(hk:k<m):(gR u s hd n m)[k]?=a_ (kZ u s hd n k):=by simp[gR,hk]
def Br:gR u s hd n (m+1)=gR u s hd n m++[kZ u s hd n m]:=by simp[gR,List.range_succ]
theorem iC{u:ue St}:∀k,(kZ u s hd n k).length=u.length+1+k
 |0=>by simp[kZ]
 |k+1=>by simp[kZ,iC k];omega
theorem qP(j:Nat):∀d,∃r,kZ u s hd n (j+d)=kZ u s hd n j++r/\∀x∈r,x.s=1
 |0=>⟨[],by simp,by simp⟩
 |d+1=>by
  let⟨r,e,h⟩:=qP j d;refine⟨r++[⟨1,hd,n,((j+d+1:Nat):Int)⟩],?_,λx hx=>?_⟩
  ·show kZ u s hd n (j+d)++[⟨1,hd,n,((j+d+1:Nat):Int)⟩]=_
   rw[e,ak]
  ·rcases ai.mp hx with hx|hx
   ·exact h x hx
   ·rw[cw.mp hx]
def K3(u:ue St)(s n:Int)(hd w:Str)(sn th:PV)(wd:Str)(h:PH)(Q:PV->PH->Prop)(hu:u.length<=900)(h0:1<=w.length)(h1:w.length<=12)(k:Q (.ref h.length) (h++[.lst ((gR u s hd n w.length).map pl)])):
  (iB [.tup [.tup [.str hd,.int n],sn,.tup [.str wd,th,pl u,.int s,.str w]]] h).W Q:=by
 refine kW ?_;simp(disch:=omega) [oH,nX,N3 u s n hd _ ⋯];refine Tv (lo:=1) (j:=w.length) (λq δ h'=>h'=h++[.lst ((gR u s hd n (q+1)).map pl)]/\∃x0 x1 x2 x3 x4 x5 x6 x7 x12,δ=[x0,x1,x2,x3,x4,x5,x6,x7,a_ (.str w),a_ (.str hd),d_ n,c_ h.length,x12]) ?_ ?_ ?_ ?_ ?_
 ·simp(disch:=omega)
 ·omega
 ·exact⟨rfl,_,_,_,_,_,_,_,_,_,rfl⟩
 ·rintro q δ h' hq ⟨rfl,x0,x1,x2,x3,x4,x5,x6,x7,x12,rfl⟩;have e1:(h++[MO.lst ((gR u s hd n (q+1)).map pl)])[h.length]?=a_ (.lst ((gR u s hd n (q+1)).map pl)):=aT;have e2:atI ((gR u s hd n (q+1)).map pl) (1+(q:Int)-1)=a_ (pl (kZ u s hd n q)):=by
   have:(1+(q:Int)-1)=(q:Int):=⋯;rw[this];exact jZ (by rw[ar,N4 ⋯];rfl)
  have e3:=iC (u:=u) (s:=s) (hd:=hd) (n:=n) q;have e4:=lC (u:=u) (s:=s) (hd:=hd) (n:=n) (m:=q+1);simp(disch:=first|omega|(simp;omega)) [pU,oX e1,fX e1,e2,gK e1,pl]
  rw[Br (m:=q+1)];simp[kZ,pl,stp];omega
 ·rintro δ h' ⟨rfl,x0,x1,x2,x3,x4,x5,x6,x7,x12,rfl⟩;simp;have:w.length-1+1=w.length:=⋯;rw[this];exact k
abbrev al1:Str:=" !\"#$&'()*+,-./0123456789:;<=>?@ABCDEFGHIJKLMNOPQRSTUVWXYZ[\\]^_`"
abbrev al2:Str:="abcdefghijklmnopqrstuvwxyz{|}~"
def al:Str:=al1++al2
def U4:al.cps.toList.length=94:=by decide +kernel
def Q7:al.length=94:=by decide +kernel
def U5:∀i:Fin 94,(al.cps.toList[i.val]?).any (λc=>decide (c<128))=true:=by decide +kernel
def Wq(h0:0<=i)(h1:i<94):∃c,atI al.cps.toList i=a_ c/\c<128:=by
 rw[Ip h0 (by rw[U4];exact h1)];have:=U5 ⟨i.toNat,⋯⟩;cases e:al.cps.toList[i.toNat]? with
 |none=>rw[e]at this;cases this
 |some c=>rw[e]at this;exact⟨c,rfl,l_ this⟩
def Asc(w:Str):Prop:=∀c∈w.cps.toList,c<128
def N5(n m:Int)(hm:0<=m/\m<=12)(h:PH)(Q:PV->PH->Prop)(k:∀w:Str,w.length=m.toNat->Asc w->Q (.str w) h):(sL [.int n,.int m] h).W Q:=by
 refine kW ?_;have l1:(gf " !\"#$&'()*+,-./0123456789:;<=>?@ABCDEFGHIJKLMNOPQRSTUVWXYZ[\\]^_`").length=64:=by decide +kernel
 have l2:(gf "abcdefghijklmnopqrstuvwxyz{|}~").length=30:=by decide +kernel
 simp(disch:=omega) [Cu,nX];refine Cd (j:=m) (λq δ h'=>h'=h/\∃n w x4,δ=[d_ n,d_ m,a_ (.str al),a_ (.str w),x4]/\w.length=q/\Asc w) ?_ ?_ ?_ ?_ ?_
 ·simp(disch:=omega)
 ·omega
 ·exact⟨rfl,_,_,_,rfl,rfl,λc hc=>by rw[N2]at hc;cases hc⟩
 ·rintro q δ h' hq ⟨rfl,n,w,x4,rfl,hw,hlow⟩;let⟨c,hc,hc1⟩:=Wq (i:=(n*48271+11)%2147483647%94) ⋯ ⋯;have hl:=Q7;have h1:(⟨#[c]⟩:Str).length=1:=rfl;simp(disch:=omega) [Bo,hc,nX];refine⟨_,_,⟨rfl,rfl⟩,by rw[EA];omega,λd hd=>?_⟩;rw[app_list]at hd;rcases ai.mp hd with hd|hd
  ·exact hlow d hd
  ·simp at hd;omega
 ·rintro δ h' ⟨rfl,n,w,x4,rfl,hw,hlow⟩;simp;exact k w ⋯ hlow
def wr(hd:Str)(n:Int)(sn:PV)(u:ue St)(s:Int)(w:Str):PV:=.tup [.tup [.str hd,.int n],sn,.tup [.str "write",.tup [.str "t",.int 1],pl u,.int s,.str w]]
def len_list(z:Str):z.cps.toList.length=z.length:=by simp[Str.length]
def rwP(r:ue St×Nat):PV:=.tup [pl r.1,.str ⟨#[r.2]⟩]
def bP(u:ue St)(s:Int)(hd:Str)(n:Int)(w:Str):k_ 0:=(gR u s hd n w.length).zip w.cps.toList
def kvR(R:k_ 0):ue (PV×PV):=R.map λr=>(pl r.1,.str ⟨#[r.2]⟩)
def zK(R:k_ 0)(r:ue St×Nat):k_ 0:=if r.1∈R.map (·.1) then R.map λq=>if q.1=r.1 then r else q else R++[r]
def EB(R:k_ 0)(p:ue St):bQ (kvR R) (pl p)=(R.find? λr=>decide (r.1=p)).map λr=>.str ⟨#[r.2]⟩:=by
 induction R with
 |nil=>rfl
 |cons r R ih=>
  unfold kvR at ih⊢;by_cases e:r.1=p
  ·simp[bQ,e]
  ·have:pl r.1≠pl p:=λz=>e (iG z);have this':pl p≠pl r.1:=λz=>this z.symm;simp[bQ,e,this,this',ih]
def EC(R:k_ 0)(p:ue St):(bQ (kvR R) (pl p)).isSome=decide (p∈R.map (·.1)):=by rw[EB,Option.isSome_map,gb,List.find?_isSome,decide_eq_true_iff,bz];simp
def Q8(R:k_ 0)(r:ue St×Nat):kA (kvR R) (pl r.1) (.str ⟨#[r.2]⟩)=kvR (zK R r):=by
 unfold kA zK;rw[EC];by_cases c:r.1∈R.map (·.1)
 ·rw[if_pos (l_ c),if_pos c];unfold kvR;rw[oj,oj];refine o5 λq _=>?_
  show(if pl q.1=pl r.1 then(pl q.1,PV.str ⟨#[r.2]⟩) else(pl q.1,PV.str ⟨#[q.2]⟩))=(pl (if q.1=r.1 then r else q).1,PV.str ⟨#[(if q.1=r.1 then r else q).2]⟩)
  by_cases e:q.1=r.1
  ·rw[if_pos (by rw[e]),if_pos e,e]
  ·rw[if_neg (λz=>e (iG z)),if_neg e]
 ·rw[if_neg (l_ c),if_neg c];simp[kvR]
def N6(R:k_ 0)(p:ue St):vV (kvR R) (pl p)=kvR (R.filter λr=>decide (r.1≠p)):=by
 unfold vV kvR;rw[List.filter_map];congr 1;refine k9 λr _=>?_
 show decide (pl r.1≠pl p)=decide (r.1≠p)
 by_cases e:r.1=p
 ·simp[e]
 ·have:pl r.1≠pl p:=λz=>e (iG z);simp[e,this]
def U6{E:FE}{x:Str}(I:Nat->Ev->PH->Prop)(e:ms δ h=.ok [.ref n,.str x] h1)(ha:(x.cps.all λc=>decide (c<128))=true)(el:aS h1 n=a_ xs)(h0:I 0 δ h1)(keep:∀q δ h,I q δ h->uE n xs h=true)(step:∀(q:Nat) y δ h,(wX xs x)[q]?=a_ y->I q δ h->∃δ1,tg y δ=a_ δ1/\(body δ1 h).W { nx:=I (q+1),ct:=I (q+1),rt:=E.rt,bk:=E.nx})(fin:∀δ h,I (wX xs x).length δ h->E.nx δ h):(eN (Q4 ms) tg body δ h).W E:=by
 have go:(iK (uE n xs) tg body (wX xs x) δ h1).W E:=uG I _ 0 δ h1 h0 (λq y δ h _ hx hi=>⟨keep q δ h hi,by rw[j0]at hx;exact step q y δ h hx hi⟩) (λδ h hi=>⟨keep _ δ h hi,fin δ h (l_ hi)⟩);unfold eN Q4;rw[e,Rs.bind_ok];unfold U2;dsimp only;rw[if_pos ha,el];exact go
def Bs(u:ue St)(s n:Int)(hd w:Str):wX ((gR u s hd n w.length).map pl) w=(bP u s hd n w).map rwP:=by unfold wX bP;rw[List.map_zip_eq_zipWith,List.zipWith_map_left];rfl
def gC(h:PH)(a d:Nat)(R:k_ 0):Prop:=h[a]?=a_ (.ins "Signs" [("kept",.ref d)])/\bC h d=a_ (kvR R)
theorem gC.fld(t:gC h a d R):wV "kept" (.ref a) h=.ok (.ref d) h:=Co t.1 rfl
def Bt(p:ue St):(PV.tup (p.map stp)).ky 6=true:=by
 show(p.map stp).all (PV.ky 5)=true
 rw[j3];exact ay.mpr λy _=>rfl
def xK{h:PH}(e:bC h n=a_ kvs):bC (h.set n (.dD kvs')) n=a_ kvs':=by
 have hn:∃o,h[n]?=a_ o:=by
  unfold bC at e;split at e
  ·exact⟨_,by assumption⟩
  ·exact⟨_,by assumption⟩
  ·cases e
 let⟨o,ho⟩:=hn;exact Iv (qH ho)
def Q9{w:Str}(h:Asc w):(w.cps.all λc=>decide (c<128))=true:=by rw[Array.all_eq_true_iff_forall_mem];intro c hc;exact decide_eq_true (h c (l_ hc))
def N7(R:k_ 0)(r:ue St×Nat):(zK R r).length<=R.length+1:=by
 unfold zK;split
 ·rw[aq];omega
 ·simp
def K4(l:k_ 0):∀R,(l.foldl zK R).length<=R.length+l.length:=by
 induction l with
 |nil=>intro R;simp
 |cons r l ih=>intro R;have:=ih (zK R r);have:=N7 R r;simp only[List.foldl_cons,dm];omega
def N8{h:PH}{R:k_ 0}(t:gC h a d R)(lR:R.length<=100000)(u:ue St)(s n:Int)(hd w:Str)(sn:PV)(hu:u.length<=900)(h0:1<=w.length)(h1:w.length<=12)(asc:Asc w)(Q:PV->PH->Prop)(k:∀h',(∀i o,i≠d->h[i]?=a_ o->h'[i]?=a_ o)->bC h' d=a_ (kvR ((bP u s hd n w).foldl zK R))->Q .non h'):(dN [.ref a,wr hd n sn u s w] h).W Q:=by
 refine kW ?_;have ep:iB [wr hd n sn u s w] h=.ok (.ref h.length) (h++[.lst ((gR u s hd n w.length).map pl)]):=by have:=K3 u s n hd w sn (.tup [.str "t",.int 1]) "write" h (λp h'=>p=.ref h.length/\h'=h++[.lst ((gR u s hd n w.length).map pl)]) hu h0 h1 ⟨rfl,rfl⟩;let⟨p,h',e,rfl,rfl⟩:=rT this;exact e
 unfold kC;rw[aP];have e4:vIx (wr hd n sn u s w) (.int 2) h=.ok (.tup [.str "write",.tup [.str "t",.int 1],pl u,.int s,.str w]) h:=by simp[wr]
 simp[e4];refine now ?_;have dl:d<h.length:=by
  have g:=t.2;unfold bC at g;split at g
  ·rename_i e;exact(ab.mp e).1
  ·rename_i e;exact(ab.mp e).1
  ·cases g
 have hA:(h++[MO.lst ((gR u s hd n w.length).map pl)])[h.length]?=a_ (.lst ((gR u s hd n w.length).map pl)):=aT;have xA:Ext h (h++[MO.lst ((gR u s hd n w.length).map pl)]):=Ext.app _ _;generalize h++[MO.lst ((gR u s hd n w.length).map pl)]=hB at ep hA xA;have ad:a≠d:=λe=>by have g:=t.2;rw[<-e]at g;unfold bC at g;rw[t.1]at g;cases g
 have lw:(bP u s hd n w).length<=12:=by unfold bP;rw[List.length_zip,lC];omega
 refine U6 (n:=h.length) (xs:=(gR u s hd n w.length).map pl) (x:=w) (h1:=hB) (λr δ h'=>(∀i o,i≠d->hB[i]?=a_ o->h'[i]?=a_ o)/\bC h' d=a_ (kvR (((bP u s hd n w).take r).foldl zK R))/\∃x3 x4,δ=[c_ a,a_ (wr hd n sn u s w),a_ (.str w),x3,x4]) (by simp[ep]) (Q9 asc) (by unfold aS;rw[hA]) ?_ ?_ ?_ ?_
 ·refine⟨λ_ _ _ e=>e,?_,_,_,rfl⟩;let⟨o,ho,_,hh⟩:=iA t.2;simpa using hh _ (xA _ _ ho)
 ·rintro r δ h' ⟨k1,_⟩;unfold uE aS;rw[k1 _ _ ⋯ hA];exact PV.beqs_self _
 ·rintro r y δ h' hy ⟨k1,g1,x3,x4,rfl⟩;rw[Bs,ar]at hy;let⟨q,hq,rfl⟩:=br.mp hy;refine⟨[c_ a,a_ (wr hd n sn u s w),a_ (.str w),a_ (pl q.1),a_ (.str ⟨#[q.2]⟩)],by simp[rwP],?_⟩;have hr:=(ab.mp hq).1;have htk:(bP u s hd n w).take (r+1)=(bP u s hd n w).take r++[q]:=by rw[ka,hq];rfl
  have l1:=K4 ((bP u s hd n w).take r) R;rw[cf]at l1;have p1:oC (.ref d) (pl q.1) (.str ⟨#[q.2]⟩) h'=a_ (h'.set d (.dD (kA (kvR (((bP u s hd n w).take r).foldl zK R)) (pl q.1) (.str ⟨#[q.2]⟩)))):=IE g1 (Bt _) (by simp[kvR];omega);rw[Q8]at p1;have ef:wV "kept" (.ref a) h'=.ok (.ref d) h':=Co (k1 _ _ ad (xA _ _ t.1)) rfl;unfold nG;simp[ef,p1];refine⟨λi o hi ho=>by rw[dr (iz hi)];exact k1 i o hi ho,?_⟩;rw[htk,List.foldl_append];exact xK g1
 ·rintro δ h' ⟨k1,g1,x3,x4,rfl⟩;rw[Bs,aq,o9]at g1;exact k h' (λi o hi ho=>k1 i o hi (xA _ _ ho)) g1
def rk(xs:ue St):PV:=.tup (xs.map stp++[sQ])
def XX(Ps:ue (ue St)):OkN 2 (Ps.map rk):=by
 refine⟨⋯,λv hv=>?_,λv hv=>?_,λv hv u hu=>?_⟩
 ·let⟨xs,_,rfl⟩:=bz.mp hv
  show(xs.map stp++[sQ]).all (PV.ky 19)=true
  rw[List.all_append,cg,j3];exact⟨ay.mpr λy _=>rfl,rfl⟩
 ·let⟨xs,_,rfl⟩:=bz.mp hv;cases xs <;> rfl
 ·let⟨xs,_,rfl⟩:=bz.mp hv;let⟨ys,_,rfl⟩:=bz.mp hu
  show(ltL (ltP 19) (xs.map stp++[sQ]) (ys.map stp++[sQ])).isSome=true
  rw[Cy 17 xs ys];rfl
def U7(h:rk xs=rk ys):pl xs=pl ys:=by unfold rk at h;unfold pl;have:=PV.tup.inj h;rw[(List.append_inj' this rfl).1]
def GE(xs ys:ue St):ltN (rk xs) (rk ys)=bef xs ys:=Gn (n:=20) (by show ltL (ltP 19) _ _=_;exact Cy 17 xs ys)
theorem GF{α β:Type}:∀{l:ue (α×β)},(l.map (·.1)).Nodup->∀{a b:α×β},a∈l->b∈l->a.1=b.1->a=b
 |[],_,a,b,ha,_,_=>by cases ha
 |x::r,nd,a,b,ha,hb,e=>by
  rw[dn,ip]at nd;rcases bx.mp ha with q|ha'
  ·rcases bx.mp hb with z|hb'
   ·rw[q,z]
   ·exact(nd.1 (bz.mpr ⟨b,hb',by rw[<-e,q]⟩)).elim
  ·rcases bx.mp hb with z|hb'
   ·exact(nd.1 (bz.mpr ⟨a,ha',by rw[e,z]⟩)).elim
   ·exact GF nd.2 ha' hb' e
def SRt(os:k_ 0):Prop:=os.Pairwise λa c=>bef c.1 a.1=false
theorem SRt.uniq{os:k_ 0}(h:SRt os)(h':SRt os')(p:os.Perm os')(nd:(os.map (·.1)).Nodup):os=os':=by
 refine sh (λa b ha hb l1 l2=>?_) h h' p;have hb':=p.mem_iff.mpr hb;have e:a.1=b.1:=by
  by_cases c:a.1=b.1
  ·exact c
  ·have:=Cz c;rw[l1,l2]at this;cases this
 exact GF nd ha hb' e
def wG(r:ue St×Nat)(h:PH)(hr:r.1.length<=1000):eJ [rwP r] h=.ok (rk r.1) h:=by
 have w:(eJ [rwP r] h).W λp h'=>p=rk r.1/\h'=h:=by refine kW ?_;simp[qN,rwP,IL r.1 h hr,rk]
 let⟨p,h',e,rfl,rfl⟩:=rT w;exact e
def ED(hf:∀r h,r.1.length<=1000->f [rwP r] h=.ok (rk r.1) h){R:k_ 0}(lR:R.length<1000000)(hp:∀r∈R,r.1.length<=1000)(nd:(R.map (·.1)).Nodup)(e:mN x h=a_ (R.map rwP))(Q:PV->PH->Prop)(k:∀os h',Ext h h'->os.Perm R->SRt os->Q (.ref h'.length) (h'++[.lst (os.map rwP)])):(iQ f false 2 x h).W Q:=by
 refine MR (key:=λr:ue St×Nat=>rk r.1) (emb:=rwP) e lR ?_ (λa ha c hc z=>?_) (λr hr h Q q=>?_) λos h' hx p pw=>k os h' hx p (pw.imp λ{a c} z=>by rw[GE]at z;exact z)
 ·have:=XX (R.map (·.1))
  rwa[oj]at this
 ·have e1:a.1=c.1:=iG (U7 z);rw[GF nd ha hc e1]
 ·rw[hf r h (hp r hr)];simpa using q h (Ext.refl h)
def xM{h:PH}{kvs:ue (PV×PV)}(e:bC h n=a_ kvs):∃o,h[n]?=a_ o/\Mz (a_ o)=true/\uO o=a_ (kvs.map λkv=>.tup [kv.1,kv.2]):=by
 unfold bC at e;split at e
 ·rename_i k hk;cases e;exact⟨_,hk,rfl,rfl⟩
 ·rename_i hk;cases e;exact⟨_,hk,rfl,rfl⟩
 ·cases e
def K5(R:k_ 0):(kvR R).map (λkv=>PV.tup [kv.1,kv.2])=R.map rwP:=by unfold kvR;rw[oj];rfl
def IM{h:PH}{R:k_ 0}(t:gC h a d R)(lR:R.length<1000000)(hp:∀r∈R,r.1.length<=1000)(nd:(R.map (·.1)).Nodup)(Q:PV->PH->Prop)(k:∀os h' l,Ext h h'->h.length<=l->h'[l]?=a_ (.lst (os.map rwP))->os.Perm R->SRt os->Q (.ref l) h'):(aQ [.ref a] h).W Q:=by
 refine kW ?_;unfold mO;let⟨o,ho,hd,hi⟩:=xM t.2;rw[K5]at hi;let⟨_,_,hD,_⟩:=iA t.2;have e0:Pn nD pA (mUn (wV "kept") (mV 0)) [c_ a] h=.ok (.ref h.length) (h++[.vw 0 d]):=by simp[t.fld,hD,Gv ho hd]
 have ho1:(h++[MO.vw 0 d])[d]?=a_ o:=Ext.app _ _ _ _ ho;have hl:h.length<=(h++[MO.vw 0 d]).length:=(Ext.app h [MO.vw 0 d]).len;simp only[LU,zF];refine(congrArg (λr=>Rs.W (Rs.bind r _) _) e0).mpr ?_;rw[Rs.bind_ok];exact ED wG lR hp nd (by rw[Ey aT ho1,hi]) _ λos h' hx p s=>k os _ _ ((Ext.app _ _).trans (hx.trans (Ext.app _ _))) (fv hl hx.len) aT p s
def xN(p:ue St):(pl p).isKt=true:=Bt p
theorem zL:∀{l:k_ 0}{r:ue St×Nat},(l.map (·.1)).Nodup->r∈l->l.filter (λq=>decide (q.1=r.1))=[r]
 |[],r,_,h=>by cases h
 |x::l,r,nd,h=>by
  rw[dn,ip]at nd;rcases bx.mp h with rfl|h
  ·rw[List.filter_cons_of_pos (by simp)];congr 1;rw[List.filter_eq_nil_iff];intro q hq e;exact nd.1 (bz.mpr ⟨q,hq,l_ e⟩)
  ·have:x.1≠r.1:=λe=>nd.1 (bz.mpr ⟨r,h,e.symm⟩);rw[List.filter_cons_of_neg (l_ this)];exact zL nd.2 h
def pE{l:k_ 0}{p:ue St×Nat->Bool}(nd:(l.map (·.1)).Nodup):((l.filter p).map (·.1)).Nodup:=tf (List.Sublist.map _ kc) nd
def bX(R:k_ 0)(g:ue (ue St)):k_ 0:=R.filter λr=>decide (r.1∉g)
def inR(R:k_ 0)(g:ue (ue St)):k_ 0:=R.filter λr=>decide (r.1∈g)
def uW(R:k_ 0)(g:ue (ue St))(p:ue St):bX R (g++[p])=(bX R g).filter λr=>decide (r.1≠p):=by
 unfold bX;rw[List.filter_filter];refine k9 λr _=>?_;by_cases h1:r.1∈g <;> by_cases h2:r.1=p <;> simp[h1,h2]
def EE(R:k_ 0)(p:ue St)(h:p∉R.map (·.1)):R.filter (λr=>decide (r.1≠p))=R:=by rw[o6];intro r hr;exact decide_eq_true λe=>h (bz.mpr ⟨r,hr,e⟩)
def Qa{G:k_ 0}(h:(G++bX R g).Perm R):G.Perm (inR R g):=by
 have h2:(inR R g++bX R g).Perm R:=by
  have:=List.filter_append_perm (λr:ue St×Nat=>decide (r.1∈g)) R;have e:(λr:ue St×Nat=>!decide (r.1∈g))=λr=>decide (r.1∉g):=by funext r;simp
  rw[e]at this;exact this
 exact(List.perm_append_right_iff _).mp (h.trans h2.symm)
def qQ(l:k_ 0):(l.map rwP).all (PV.pl 39)=true:=by
 rw[j3,ay];intro r _
 show([pl r.1,PV.str ⟨#[r.2]⟩]).all (PV.pl 38)=true
 rw[ie,cg];refine⟨?_,rfl⟩
 show(r.1.map stp).all (PV.pl 37)=true
 rw[j3];exact ay.mpr λy _=>rfl
def U8(g:ue (ue St)):(g.map pl).all (PV.pl 39)=true:=by
 rw[j3,ay];intro r _
 show(r.map stp).all (PV.pl 38)=true
 rw[j3];exact ay.mpr λy _=>rfl
def K6(h:PH)(a d:Nat)(P:PV)(R:k_ 0)(g:ue (ue St))(q:Nat)(δ:Ev)(h':PH):Prop:=
 ∃G x3,δ=[c_ a,a_ P,c_ h.length,x3]/\(∀i o,i≠d->h[i]?=a_ o->h'[i]?=a_ o)/\h'[h.length]?=a_ (.lst (G.map rwP))/\bC h' d=a_ (kvR (bX R (g.take q)))/\(G++bX R (g.take q)).Perm R
def EF{R:k_ 0}{g:ue (ue St)}{δ:Ev}{E:FE}(t:gC h a d R)(lR:R.length<=100000)(nd:(R.map (·.1)).Nodup)(hq:g[q]?=a_ p)(I:K6 h a d P R g q δ h')(k:∀δ h',K6 h a d P R g (q+1) δ h'->E.nx δ h'):
  (kD (δ.set 3 (a_ (pl p))) h').W E:=by
 let⟨G,x3,rfl,k1,k2,k3,k4⟩:=I;have htk:g.take (q+1)=g.take q++[p]:=by rw[ka,hq];rfl
 have ad:a≠d:=λe=>by have g:=t.2;rw[<-e]at g;unfold bC at g;rw[t.1]at g;cases g
 have dl:d≠h.length:=λe=>by let⟨o,ho,_⟩:=xM t.2;have:=(ab.mp ho).1;omega
 have ef:∀h2,(∀i o,i≠d->h[i]?=a_ o->h2[i]?=a_ o)->wV "kept" (.ref a) h2=.ok (.ref d) h2:=λh2 kk=>Co (kk _ _ ad t.1) rfl;have e1:fN (pl p) (.ref d) h'=.ok (.bl (decide (p∈(bX R (g.take q)).map (·.1)))) h':=by rw[<-EC];exact(uN (xs:=p.map stp)).trans (Gr k3 (Bt p))
 let⟨_,_,hD,_⟩:=iA k3;unfold kD;have nd2:((bX R (g.take q)).map (·.1)).Nodup:=pE nd;by_cases c:p∈(bX R (g.take q)).map (·.1)
 ·let⟨r,hr,er⟩:=bz.mp c;have lk:bQ (kvR (bX R (g.take q))) (pl p)=a_ (.str ⟨#[r.2]⟩):=by
   rw[EB];have e2:(bX R (g.take q)).find? (λx=>decide (x.1=p))=a_ r:=by have:=zL nd2 hr;rw[er]at this;rw[<-List.head?_filter,this];rfl
   rw[e2];rfl
  have ep:=MF k3 (xN p) lk;rw[N6]at ep;have lG:G.length<=100000:=by have:=k4.length_eq;rw[az]at this;omega
  have g2:(h'.set d (.dD (kvR ((bX R (g.take q)).filter λr=>decide (r.1≠p)))))[h.length]?=a_ (.lst (G.map rwP)):=by rw[dr dl];exact k2
  have ap:=gK (p:=rwP r) g2 (by rw[aq];omega);have hRn:bX R (g.take (q+1))=(bX R (g.take q)).filter λr=>decide (r.1≠p):=by rw[htk,uW]
  rw[<-hRn]at ep g2 ap;have erw:PV.tup [pl p,.str ⟨#[r.2]⟩]=rwP r:=by rw[<-er];rfl
  simp[ef h' k1,e1,c,oX k2,hD,ep,erw,ap];refine k _ _ ⟨G++[r],_,rfl,λi o hi ho=>?_,?_,?_,?_⟩
  ·have:i≠h.length:=by have:=(ab.mp ho).1;omega
   rw[dr (iz this),dr (iz hi)];exact k1 i o hi ho
  ·rw[d9];exact qH g2
  ·have e3:=xK (kvs':=kvR (bX R (g.take (q+1)))) k3;let⟨o,ho,_,hh⟩:=iA e3;refine hh _ ?_;rw[dr (iz dl)];exact ho
  ·rw[hRn];have e4:=List.filter_append_perm (λx:ue St×Nat=>decide (x.1=r.1)) (bX R (g.take q));rw[zL nd2 hr]at e4;have e5:(λx:ue St×Nat=>!decide (x.1=r.1))=λx=>decide (x.1≠p):=by funext x;rw[er];simp
   rw[e5]at e4;rw[ak];exact(du G e4).trans k4
 ·simp[ef h' k1,e1,c];refine k _ _ ⟨G,_,rfl,k1,k2,?_,?_⟩
  ·rw[htk,uW,EE _ _ c];exact k3
  ·rw[htk,uW,EE _ _ c];exact k4
def U9{h:PH}{R:k_ 0}(t:gC h a d R)(lR:R.length<=100000)(hp:∀r∈R,r.1.length<=1000)(nd:(R.map (·.1)).Nodup)(g:ue (ue St))(P:PV)(hP:P=.tup (g.map pl)\/∃n,P=.ref n/\h[n]?=a_ (.lst (g.map pl)))(Q:PV->PH->Prop)(k:∀os h' l,(∀i o,i≠d->h[i]?=a_ o->h'[i]?=a_ o)->bC h' d=a_ (kvR (bX R g))->h.length<=l->h'[l]?=a_ (.lst (os.map rwP))->os.Perm (inR R g)->SRt os->Q (.ref l) h'):(fO [.ref a,P] h).W Q:=by
 refine kW ?_;unfold oI;rw[aP];simp;refine now ?_;rw[aP];have dl:∃o,h[d]?=a_ o:=let ⟨o,ho,_⟩:=xM t.2;⟨o,ho⟩;have x0:=Ext.app h [MO.lst []];have i0:K6 h a d P R g 0 [c_ a,a_ P,c_ h.length,b_] (h++[MO.lst []]):=by
  have e0:bX R (g.take 0)=R:=by unfold bX;rw[o6];intro r _;simp
  exact⟨[],b_,rfl,λi o _ ho=>x0 _ _ ho,aT,by rw[e0];exact cT x0 t.2,by rw[e0];exact jr _⟩
 have fin:∀δ h',K6 h a d P R g g.length δ h'->Lt (dH (pB eJ false 2 (mV 2))) { nx:=λ_ h=>Q .non h,rt:=Q} δ h':=by
  rintro δ h' ⟨G,x3,rfl,k1,k2,k3,k4⟩;rw[o9]at k3 k4;refine now ?_;simp only[LU,zF]
  show Rs.W (iQ eJ false 2 (.ref h.length) h') _
  have ndG:(G.map (·.1)).Nodup:=by have:=(k4.map jv).nodup_iff.mpr nd;rw[d9]at this;exact(gc.mp this).1
  have lG:G.length<1000000:=by have:=k4.length_eq;rw[az]at this;omega
  refine ED wG lG (λr hr=>hp r (k4.mem_iff.mp (b0 _ hr))) ndG (GA k2) _ λos h2 hx p s=>?_;have x2:Ext h' (h2++[MO.lst (os.map rwP)]):=hx.trans (Ext.app _ _);have l1:h.length<=h2.length:=by have:=(ab.mp k2).1;have:=hx.len;omega
  exact k os _ _ (λi o hi ho=>x2 _ _ (k1 i o hi ho)) (cT x2 k3) l1 aT (p.trans (Qa k4)) s
 rcases hP with rfl|⟨n,rfl,hn⟩
 ·refine Tw (xs:=g.map pl) (K6 h a d _ R g) (.inl (by simp)) i0 ?_ (λδ h' hh=>fin δ h' (l_ hh));intro q x δ h' hx hi;rw[ar]at hx;let⟨p,hp',rfl⟩:=br.mp hx;exact⟨_,rfl,EF t lR nd hp' hi λ_ _ z=>z⟩
 ·have nd':n≠d:=λe=>by have:=t.2;unfold bC at this;rw[<-e,hn]at this;cases this
  refine nY (n:=n) (xs:=g.map pl) (h1:=h++[MO.lst []]) (K6 h a d _ R g) (by simp) (x0 _ _ hn) i0 ?_ ?_ (λδ h' hh=>fin δ h' (l_ hh))
  ·rintro q δ h' _ ⟨G,x3,_,k1,_⟩;exact k1 _ _ nd' hn
  ·intro q x δ h' hx hi;rw[ar]at hx;let⟨p,hp',rfl⟩:=br.mp hx;exact⟨_,rfl,EF t lR nd hp' hi λ_ _ z=>z⟩
def U'{tb:Str->uf Fn}(t:gC h1 a d R)(htb:tb "Signs" = a_ f)(hmm:[(("kept" : Str),PV.ref d)].lookup mm=b_)(h0:mo δ h=.ok (.ref a) h1):dX mm n tb mo ms δ h=(ms δ h1).bind λps h2=>if ps.length=n then f (.ref a::ps) h2 else .bad:=Mx h0 t.1 htb hmm
theorem gC.ext(t:gC h a d R)(x:Ext h h'):gC h' a d R:=⟨x _ _ t.1,cT x t.2⟩
def Qb{R:k_ 0}(h:r.1∉R.map (·.1)):zK R r=R++[r]:=if_neg h
def cL{h:PH}(e:h[n]?=a_ (.lst xs))(t:bC h d=a_ kvs):n≠d:=λz=>by unfold bC at t;rw[<-z,e]at t;cases t
def CA(t:gC h a d R)(e:bC h k=a_ kvs):a≠k:=λz=>by unfold bC at e;rw[<-z,t.1]at e;cases e
def N9{h:PH}(t:bC h n=a_ kvs):n<h.length:=let ⟨_,ho,_⟩:=xM t;(ab.mp ho).1
def Qc{h:PH}(g:h[n]?=a_ (.ins "Signs" [])):aM [.ref n] h=.ok .non ((h++[MO.dK []]).set n (.ins "Signs" [("kept",.ref h.length)])):=by
 have w:(aM [.ref n] h).W λp h'=>p=.non/\h'=(h++[MO.dK []]).set n (.ins "Signs" [("kept",.ref h.length)]):=by refine kW ?_;have g':=Ext.app h [MO.dK []] _ _ g;simp[gP,Mv g',JR]
 let⟨p,h',e,rfl,rfl⟩:=rT w;exact e
structure Rk(R:k_ 0):Prop where
 nd:(R.map (·.1)).Nodup
 hp:∀r∈R,r.1.length<=1000
 len:R.length<=1000
theorem Rk.perm{S:k_ 0}(k:Rk R)(p:S.Perm R):Rk S:=⟨(p.map jv).nodup_iff.mpr k.nd,λr hr=>k.hp r (p.mem_iff.mp hr),by rw[p.length_eq];exact k.len⟩
def Qd(R:k_ 0)(a b:ue (ue St)):bX (bX R a) b=bX R (a++b):=by
 unfold bX;rw[List.filter_filter];refine k9 λr _=>?_;by_cases h1:r.1∈a <;> by_cases h2:r.1∈b <;> simp[h1,h2]
def Qe(R:k_ 0):bX R []=R:=by unfold bX;rw[o6];intro r _;simp
def N'{S:k_ 0}(p:S.Perm R)(g:ue (ue St)):(bX S g).Perm (bX R g):=p.filter _
theorem gC.fr{h h':PH}(t:gC h a d R)(e:bC h d'=a_ kvs)(ne:d≠d')(fr:∀i o,i≠d'->h[i]?=a_ o->h'[i]?=a_ o):gC h' a d R:=⟨fr _ _ (CA t e) t.1,let ⟨_,ho,_,hh⟩:=iA t.2;hh _ (fr _ _ ne ho)⟩
def mT{h1:PH}{S:k_ 0}{tb:Str->uf Fn}(t:gC h1 a d R)(k:Rk R)(p:S.Perm R)(s:SRt S)(htb:tb "Signs" = a_ aQ)(e0:mo δ h=.ok (.ref a) h1):∃h' l,Ext h1 h'/\h1.length<=l/\h'[l]?=a_ (.lst (S.map rwP))/\dX "rows" 0 tb mo aF δ h=.ok (.ref l) h':=by
 have w:(aQ [.ref a] h1).W λv h'=>∃l,v=.ref l/\Ext h1 h'/\h1.length<=l/\h'[l]?=a_ (.lst (S.map rwP)):=by refine IM t (by have:=k.len;omega) k.hp k.nd _ λos h' l x hl g p1 s1=>?_;have e:os=S:=SRt.uniq s1 s (p1.trans p.symm) (k.perm p1).nd;rw[e]at g;exact⟨l,rfl,x,hl,g⟩
 let⟨v,h',e,l,rfl,x,hl,g⟩:=rT w;refine⟨h',l,x,hl,g,?_⟩;rw[U' t htb rfl e0,jU,Rs.bind_ok,if_pos (by rfl),e]
def sR(t:gC h a d R)(k:Rk R):∃S,S.Perm R/\SRt S:=by have w:(aQ [.ref a] h).W λv h'=>∃S:k_ 0,S.Perm R/\SRt S:=IM t (by have:=k.len;omega) k.hp k.nd _ λos h' l x hl g p1 s1=>⟨os,p1,s1⟩;let⟨_,_,_,S,hS⟩:=rT w;exact⟨S,hS⟩
def orF{ta tb:Ev->PH->Rs Bool}(e1:ta δ h=.ok false h1)(e2:tb δ h1=.ok false h2):JH ta tb δ h=.ok false h2:=by rw[Pp,e1,Rs.bind_ok,if_neg nofun,e2]
theorem EG:∀(l R:k_ 0),((R++l).map (·.1)).Nodup->l.foldl zK R=R++l
 |[],R,_=>by simp
 |x::l,R,nd=>by
  have hno:x.1∉R.map (·.1):=λz=>by rw[d9,gc]at nd;exact nd.2.2 _ z _ (by simp) rfl
  rw[List.foldl_cons,Qb hno,EG l (R++[x]) (by rw[ak];exact nd),ak];rfl
def lF(u:ue St)(s n:Int)(hd w:Str):(bP u s hd n w).map (·.1)=gR u s hd n w.length:=by unfold bP;refine List.map_fst_zip ?_;rw[lC,len_list];exact bq _
theorem lH:∀(p:ue St)(x:St)(r:ue St),bef p (p++x::r)=decide (0<=x.s)
 |[],x,r=>rfl
 |y::p,x,r=>by
  show(if y=y then bef p (p++x::r) else uV y y)=_
  rw[if_pos rfl];exact lH p x r
theorem zM:∀(p:ue St)(x:St)(r:ue St),bef (p++x::r) p=decide (x.s<0)
 |[],x,r=>rfl
 |y::p,x,r=>by
  show(if y=y then bef (p++x::r) p else uV y y)=_
  rw[if_pos rfl];exact zM p x r
theorem IP:∀{l r:ue St},r.take l.length≠l->bef l r=true->∀e,bef (l++e) r=true
 |[],r,h,_,_=>(h rfl).elim
 |x::l,[],_,h,e=>h
 |x::l,y::r,hp,h,e=>by
  show(if x=y then bef (l++e) r else uV x y)=true
  have h:(if x=y then bef l r else uV x y)=true:=h;by_cases q:x=y
  ·rw[if_pos q]at h⊢;refine IP (λz=>hp ?_) h e
   show y::r.take l.length=x::l
   rw[z,q]
  ·rw[if_neg q]at h⊢;exact h
def Na(h1:bef b a=false)(h2:bef c b=false):bef c a=false:=by rw[<-GE] at*;exact Cg h1 h2
def GG(h:bef a b=true):bef b a=false:=by rw[<-GE] at*;exact Ci h
def Qf(xs ys:ue St)(h:PH):jV (rk xs) (rk ys) h=.ok (.bl (bef xs ys)) h:=M3 (IK xs) (IK ys) (Cy 37 xs ys)
def K7(xs ys:ue St)(h:PH)(hx:xs.length<=1000)(hy:ys.length<=1000):oG [pl xs,pl ys] h=.ok (.bl (bef xs ys)) h:=by
 have w:(oG [pl xs,pl ys] h).W λp h'=>p=.bl (bef xs ys)/\h'=h:=by refine kW ?_;have l1:=Qf xs ys h;unfold rk at l1;simp[zG,IL,hx,hy,l1]
 let⟨p,h',e,rfl,rfl⟩:=rT w;exact e
def cQ(l:ue St):uf (ue St)->ue St×Int
 |none=>(l,1)
 |some r=>if r.take l.length=l then(r,-1) else(l,1)
def Nb(hb:∀r,ro=a_ r->bef l r=true)(hd:Str)(n:Int)(e:ue St):bef l ((cQ l ro).1++⟨(cQ l ro).2,hd,n,0⟩::e)=true:=by
 cases ro with
 |none=>exact(lH l _ e).trans rfl
 |some r=>
  have hb:=hb r rfl;unfold cQ;dsimp only;split
  ·rename_i c;have er:r=l++r.drop l.length:=by
    rw[<-c,cf];have:r.take (min l.length r.length)++r.drop (min l.length r.length)=r:=b8 _ _;have e2:r.take (min l.length r.length)=r.take l.length:=by rw[List.take_eq_take_iff];omega
    rw[e2]at this;exact this.symm
   generalize r.drop l.length=t at er;subst er;cases t with
   |nil=>rw[dz,zJ]at hb;cases hb
   |cons y t=>
    rw[lH]at hb
    show bef l ((l++y::t)++_)=true
    rw[ak,j2,lH];exact hb
  ·exact(lH l _ e).trans rfl
def Nc(hb:bef l r=true)(hd:Str)(n:Int)(e:ue St):bef ((cQ l (a_ r)).1++⟨(cQ l (a_ r)).2,hd,n,0⟩::e) r=true:=by
 unfold cQ;dsimp only;split
 ·exact(zM r _ e).trans rfl
 ·rename_i c;exact IP c hb _
def Ua(l:ue St)(ro:uf (ue St))(h:PH)(hl:l.length<=1000)(hr:∀r,ro=a_ r->r.length<=1000/\bef l r=true):Bm [pl l,(ro.map pl).getD .non] h=.ok (.tup [pl (cQ l ro).1,.int (cQ l ro).2]) h:=by
 have w:(Bm [pl l,(ro.map pl).getD .non] h).W λp h'=>p=.tup [pl (cQ l ro).1,.int (cQ l ro).2]/\h'=h:=by
  refine kW ?_;unfold MT;rw[aP,fA];cases ro with
  |none=>have e0:mI PV.non=true:=rfl;simp[e0,cQ]
  |some r=>
   let⟨lr,hb⟩:=hr r rfl;have e0:mI (pl r)=false:=rfl;simp[e0];refine now ?_;rw[aP,fA];simp[K7 l r h hl lr,hb];refine now ?_;rw[aP,fA];have e1:gH [pl l] h=.ok (.int (l.length:Int)) h:=by unfold pl;simp
   have e2:vSl (pl r) b_ (a_ (l.length:Int)) h=.ok (pl (r.take l.length)) h:=by unfold pl;rw[Pw,TB ⋯,<-List.map_take];rfl
   have e3:vEq (pl (r.take l.length)) (pl l) h=.ok (.bl (decide (r.take l.length=l))) h:=by
    rw[Ga (MY _) (MY _)];congr 2;rw[decide_eq_decide];exact⟨λz=>iG z,λz=>by rw[z]⟩
   simp[e1,e2,e3];by_cases c:r.take l.length=l
   ·simp[c,cQ]
   ·simp[c,cQ];refine now ?_;simp
 let⟨p,h',e,rfl,rfl⟩:=rT w;exact e
def lft(Ps:ue (ue St)):Nat->ue St
 |0=>[]
 |i+1=>Ps.getD i []
def Gd(p:ue St):Prop:=∃x xs,p=x::xs/\x.s=1
structure SI(S:k_ 0):Prop where
 srt:SRt S
 nd:(S.map (·.1)).Nodup
 gd:∀r∈S,Gd r.1
 hl:∀r∈S,r.1.length<=500
theorem SI.lt{S:k_ 0}(I:SI S){i j:Nat}(hij:i<j){a b:ue St×Nat}(ha:S[i]?=a_ a)(hb:S[j]?=a_ b):bef a.1 b.1=true:=by
 let⟨hi,ea⟩:=ab.mp ha;let⟨hj,eb⟩:=ab.mp hb;have h1:=(dq.mp I.srt) i j hi hj hij;rw[ea,eb]at h1;have ne:b.1≠a.1:=λz=>by
  have:=(dq.mp I.nd) i j (l_ hi) (l_ hj) hij
  rw[List.getElem_map,List.getElem_map,ea,eb]at this;exact this z.symm
 have:=Cz ne;rw[h1]at this;exact this
theorem SI.lb{S:k_ 0}(I:SI S){i:Nat}{r:ue St×Nat}(hr:S[i]?=a_ r):bef (lft (S.map (·.1)) i) r.1=true:=by
 cases i with
 |zero=>
  let⟨x,xs,e,hx⟩:=I.gd r (cq hr);rw[e]
  show decide (0<=x.s)=true
  rw[hx];rfl
 |succ i=>
  have hi:=(ab.mp hr).1;have ha:S[i]?=a_ S[i]:=c8 _;have:lft (S.map (·.1)) (i+1)=(S[i]).1:=by
   show(S.map (·.1)).getD i []=_
   rw[av,ar,ha];rfl
  rw[this];exact I.lt (qy i) ha hr
def lI{u:ue St}{w:Str}(hx:x∈bP u s hd n w):∃e,x.1=u++⟨s,hd,n,0⟩::e/\x.1.length<=u.length+w.length:=by
 have h:x.1∈(bP u s hd n w).map (·.1):=bz.mpr ⟨x,hx,rfl⟩;rw[lF]at h;unfold gR at h;let⟨k,hk,e⟩:=bz.mp h;rw[qt]at hk;let⟨r,er,_⟩:=qP (u:=u) (s:=s) (hd:=hd) (n:=n) 0 k;rw[j1]at er;refine⟨r,?_,by rw[<-e,iC];omega⟩;rw[<-e,er]
 show(u++[⟨s,hd,n,0⟩])++r=_
 rw[ak];rfl
def Qi(u:ue St)(s n:Int)(hd w:Str):SRt (bP u s hd n w):=by
 have h:((bP u s hd n w).map (·.1)).Pairwise (λa c=>bef c a=false):=by
  rw[lF];unfold gR;rw[i9];refine List.pairwise_lt_range.imp λ{i j} hij=>?_;let⟨r,er,hr⟩:=qP (u:=u) (s:=s) (hd:=hd) (n:=n) i (j-i);have e:i+(j-i)=j:=⋯;rw[e]at er;cases r with
  |nil=>have l1:=iC (u:=u) (s:=s) (hd:=hd) (n:=n) i;have l2:=iC (u:=u) (s:=s) (hd:=hd) (n:=n) j;rw[er,dz]at l2;omega
  |cons x r=>rw[er,zM,hr x aw];rfl
 exact i9.mp h
def Nd(u:ue St)(s n:Int)(hd w:Str):((bP u s hd n w).map (·.1)).Nodup:=by
 rw[lF];unfold gR
 show List.Pairwise _ _
 rw[i9];refine List.pairwise_lt_range.imp λ{i j} hij e=>?_;have l1:=iC (u:=u) (s:=s) (hd:=hd) (n:=n) i;have l2:=iC (u:=u) (s:=s) (hd:=hd) (n:=n) j;rw[e]at l1;omega
def Nf{S:k_ 0}(ha:S[j]?=a_ a):lft (S.map (·.1)) (j+1)=a.1:=by
 show(S.map (·.1)).getD j []=_
 rw[av,ar,ha];rfl
theorem SI.le{S:k_ 0}(I:SI S){i j:Nat}(hij:i<=j){a b:ue St×Nat}(ha:S[i]?=a_ a)(hb:S[j]?=a_ b):bef b.1 a.1=false:=by
 rcases Nat.lt_or_eq_of_le hij with c|c
 ·exact GG (I.lt c ha hb)
 ·rw[c,hb]at ha;cases ha
  exact zJ _
theorem SI.ins{S:k_ 0}(I:SI S){i:Nat}(hi:i<=S.length){hd w:Str}{n:Int}{us:ue St×Int}(eu:cQ (lft (S.map (·.1)) i) ((S.map (·.1))[i]?)=us)(hN:∀x∈bP us.1 us.2 hd n w,x.1.length<=500):SI (S.take i++bP us.1 us.2 hd n w++S.drop i):=by
 have hb:∀r,(S.map (·.1))[i]?=a_ r->bef (lft (S.map (·.1)) i) r=true:=λr hr=>by rw[ar]at hr;let⟨z,hz,rfl⟩:=br.mp hr;exact I.lb hz
 have HA:∀a∈S.take i,∀x∈bP us.1 us.2 hd n w,bef x.1 a.1=false/\a.1≠x.1:=λa ha x hx=>by
  let⟨k,hk⟩:=ic.mp ha;rw[List.getElem?_take]at hk;split at hk
  ·rename_i c;cases i with
   |zero=>omega
   |succ j=>have hj:S[j]?=a_ S[j]:=c8 _;have h1:=I.le ⋯ hk hj;let⟨e,ex,_⟩:=lI hx;have h2:=Nb hb hd n e;rw[eu,<-ex,Nf hj]at h2;exact⟨Na h1 (GG h2),λz=>by rw[z,h2]at h1;cases h1⟩
  ·cases hk
 have HB:∀b∈S.drop i,∀x∈bP us.1 us.2 hd n w,bef b.1 x.1=false/\x.1≠b.1:=λb hb' x hx=>by
  let⟨k,hk⟩:=ic.mp hb';rw[List.getElem?_drop]at hk;have hk':=(ab.mp hk).1;have hr:S[i]?=a_ (S[i]'⋯):=c8 _;have h1:=I.le (o8 i k) hr hk;let⟨e,ex,_⟩:=lI hx;have er:(S.map (·.1))[i]?=a_ (S[i]'⋯).1:=by rw[ar,hr];rfl
  have h2:=Nc (hb _ er) hd n e;rw[<-er,eu,<-ex]at h2;exact⟨Na (GG h2) h1,λz=>by rw[<-z,h2]at h1;cases h1⟩
 have sp:=I.srt;rw[<-b8 i S]at sp;let⟨s1,s2,s3⟩:=bg.mp sp;have np:=I.nd;rw[<-b8 i S,d9]at np;let⟨n1,n2,n3⟩:=gc.mp np;have sub:∀r∈S.take i++bP us.1 us.2 hd n w++S.drop i,r∈S\/r∈bP us.1 us.2 hd n w:=λr hr=>by
  rcases ai.mp hr with hr|hr
  ·rcases ai.mp hr with hr|hr
   ·exact .inl (cz hr)
   ·exact .inr hr
  ·exact .inl (d4 hr)
 refine⟨?_,?_,λr hr=>?_,λr hr=>(sub r hr).elim (I.hl r) (hN r)⟩
 ·refine bg.mpr ⟨bg.mpr ⟨s1,Qi _ _ _ _ _,λa ha x hx=>(HA a ha x hx).1⟩,s2,λa ha b hb=>?_⟩;rcases ai.mp ha with ha|ha
  ·exact s3 a ha b hb
  ·exact(HB b hb a ha).1
 ·rw[d9,d9];refine gc.mpr ⟨gc.mpr ⟨n1,Nd _ _ _ _ _,λa ha x hx e=>?_⟩,n2,λa ha b hb e=>?_⟩
  ·let⟨a',ha',rfl⟩:=bz.mp ha;let⟨x',hx',rfl⟩:=bz.mp hx;exact(HA a' ha' x' hx').2 e
  ·rcases ai.mp ha with ha|ha
   ·exact n3 a ha b hb e
   ·let⟨a',ha',rfl⟩:=bz.mp ha;let⟨x',hx',rfl⟩:=bz.mp hb;exact(HB x' hx' a' ha').2 e
 ·rcases sub r hr with hr|hr
  ·exact I.gd r hr
  ·let⟨e,ex,_⟩:=lI hr;rw[ex];have gu:us.1=[]/\us.2=1\/Gd us.1:=by
    have gl:lft (S.map (·.1)) i=[]\/Gd (lft (S.map (·.1)) i):=by
     cases i with
     |zero=>exact .inl rfl
     |succ j=>have hj:S[j]?=a_ S[j]:=c8 _;rw[Nf hj];exact .inr (I.gd _ (cq hj))
    cases er:(S.map (·.1))[i]? with
    |none=>rw[er]at eu;rw[<-eu];exact gl.imp (λz=>⟨z,rfl⟩) id
    |some r'=>
     rw[er]at eu;have gr:Gd r':=by rw[ar]at er;let⟨z,hz,rfl⟩:=br.mp er;exact I.gd z (cq hz)
     unfold cQ at eu;dsimp only at eu;split at eu
     ·rw[<-eu];exact .inr gr
     ·rename_i c;rw[<-eu];rcases gl with z|z
      ·rw[z]at c;exact(c rfl).elim
      ·exact .inr z
   rcases gu with⟨z1,z2⟩|⟨x,xs,z1,z2⟩
   ·rw[z1];exact⟨_,e,rfl,z2⟩
   ·rw[z1];exact⟨x,_,rfl,z2⟩
inductive Ac where
 |wr (u:ue St) (s:Int) (w:Str)
 |ct (ps:ue (ue St))
structure Dd where
 hd:Str
 n:Int
 sn:PV
 ac:Ac
def acP:Ac->PV
 |.wr u s w=>.tup [.str "write",.tup [.str "t",.int 1],pl u,.int s,.str w]
 |.ct ps=>.tup [.str "cut",.tup [.str "t",.int 1],.tup (ps.map pl)]
def dP(d:Dd):PV:=.tup [.tup [.str d.hd,.int d.n],d.sn,acP d.ac]
def Qj{a b:ue (ue St)}(h:a.map pl=b.map pl):a=b:=by
 induction a generalizing b with
 |nil=>cases b with
  |nil=>rfl
  |cons y b=>cases h
 |cons x a ih=>cases b with
  |nil=>cases h
  |cons y b=>rw[dn,dn,iu]at h;rw[iG h.1,ih h.2]
def Qk(h:acP a=acP b):a=b:=by
 have ne:(gf "write")≠(gf "cut"):=by decide +kernel
 cases a with
 |wr u s w=>cases b with
  |wr u' s' w'=>simp only[acP,PV.tup.injEq,iu,PV.int.injEq,PV.str.injEq]at h;rw[iG h.2.2.1,h.2.2.2.1,h.2.2.2.2.1]
  |ct ps=>simp only[acP,PV.tup.injEq,iu,PV.str.injEq]at h;exact(ne h.1).elim
 |ct ps=>cases b with
  |wr u' s' w'=>simp only[acP,PV.tup.injEq,iu,PV.str.injEq]at h;exact(ne h.1.symm).elim
  |ct ps'=>simp only[acP,PV.tup.injEq,iu]at h;rw[Qj h.2.2.1]
def Ub(h:dP a=dP b):a=b:=by let⟨h1,n1,s1,a1⟩:=a;let⟨h2,n2,s2,a2⟩:=b;simp only[dP,PV.tup.injEq,iu,PV.str.injEq,PV.int.injEq]at h;rw[h.1.1,h.1.2.1,h.2.1,Qk h.2.2.1]
def nm(d:Dd):Str×Int:=(d.hd,d.n)
def cM(d:Dd):k_ 0:=match d.ac with
 |.wr u s w=>bP u s d.hd d.n w
 |.ct _=>[]
def pV(d:Dd):ue (ue St):=match d.ac with
 |.wr _ _ _=>[]
 |.ct ps=>ps
def bT(L:ue Dd):k_ 0:=L.flatMap cM
def jJ(L:ue Dd):ue (ue St):=L.flatMap pV
def Rl(L:ue Dd):k_ 0:=bX (bT L) (jJ L)
def iS(a b:ue Dd):bT (a++b)=bT a++bT b:=List.flatMap_append
def uX(a b:ue Dd):jJ (a++b)=jJ a++jJ b:=List.flatMap_append
def tag(p:ue St):Str×Int×Int:=match p.getLast? with
 |some x=>(x.h,x.n,x.k)
 |none=>(⟨#[]⟩,0,0)
theorem Ng:∀k:Nat,tag (kZ u s hd n k)=(hd,n,(k:Int))
 |0=>by unfold tag kZ;rw[List.getLast?_concat];rfl
 |k+1=>by unfold tag kZ;rw[List.getLast?_concat]
def IQ{d:Dd}(h:r∈cM d):∃k:Nat,tag r.1=(d.hd,d.n,(k:Int)):=by
 unfold cM at h;split at h
 ·have h1:r.1∈(bP _ _ d.hd d.n _).map (·.1):=bz.mpr ⟨r,h,rfl⟩;rw[lF]at h1;unfold gR at h1;let⟨k,_,e⟩:=bz.mp h1;exact⟨k,by rw[<-e];exact Ng k⟩
 ·cases h
def Nh(d:Dd):((cM d).map (·.1)).Nodup:=by
 unfold cM;split
 ·exact Nd _ _ _ _ _
 ·exact List.nodup_nil
def zN(L:ue Dd)(nd:(L.map nm).Nodup):((bT L).map (·.1)).Nodup:=by
 unfold bT;rw[List.map_flatMap]
 show List.Pairwise _ _
 rw[List.pairwise_flatMap];refine⟨λd _=>Nh d,(i9.mp nd).imp λ{a b} hab x hx y hy e=>hab ?_⟩;let⟨r,hr,rfl⟩:=bz.mp hx;let⟨q,hq,rfl⟩:=bz.mp hy;let⟨k,ek⟩:=IQ hr;let⟨j,ej⟩:=IQ hq;rw[e,ej]at ek;simp only[Prod.mk.injEq]at ek;exact Prod.ext ek.1.symm ek.2.1.symm
def Ql:Ac->Prop
 |.wr u _ w=>u.length<=450/\1<=w.length/\w.length<=12/\Asc w
 |.ct ps=>ps.length<=10
structure LO(L:ue Dd):Prop where
 nd:(L.map nm).Nodup
 ok:∀d∈L,Ql d.ac/\d.sn.pl 38=true
 cl:∀A d B,L=A++d::B->∀p∈pV d,p∈(bT A).map (·.1)
theorem LO.pre(h:LO (A++B)):LO A:=⟨by have:=h.nd;rw[d9]at this;exact(gc.mp this).1,λd hd=>h.ok d (b0 _ hd),λA' d B' e=>h.cl A' d (B'++B) (by rw[e,ak];rfl)⟩
theorem LO.cuts(h:LO L)(hp:p∈jJ L):p∈(bT L).map (·.1):=by let⟨d,hd,hp⟩:=rj.mp hp;let⟨A,B,e⟩:=List.append_of_mem hd;have:=h.cl A d B e p hp;rw[e,iS,d9];exact b0 _ this
theorem LO.row(h:LO (L++[d])):Rl (L++[d])=bX (Rl L++cM d) (pV d):=by
 have nd:=zN _ h.nd;have e1:bT [d]=cM d:=by simp[bT]
 have e2:jJ [d]=pV d:=by simp[jJ]
 rw[iS,e1,d9]at nd;unfold Rl;rw[iS,uX,e1,e2,<-Qd];congr 1
 show(bT L++cM d).filter _=bX (bT L) (jJ L)++cM d
 rw[List.filter_append]
 show bX (bT L) (jJ L)++_=_
 congr 1;rw[o6];intro r hr;refine decide_eq_true λz=>?_;have z':=h.pre.cuts z;exact(gc.mp nd).2.2 _ z' _ (bz.mpr ⟨r,hr,rfl⟩) rfl
theorem LO.rk(h:LO L)(hl:(bT L).length<=1000)(hp:∀r∈bT L,r.1.length<=1000):Rk (Rl L):=⟨pE (zN _ h.nd),λr hr=>hp r (jt.mp hr).1,fv (qj _ _) hl⟩
def CB{L:ue Dd}(p:L.Perm M):(Rl L).Perm (Rl M):=by
 unfold Rl;have h1:(bT L).Perm (bT M):=List.Perm.flatMap_right _ p;have h2:bX (bT L) (jJ L)=bX (bT L) (jJ M):=by unfold bX;refine k9 λr _=>?_;rw[decide_eq_decide];refine not_congr ?_;exact(List.Perm.flatMap_right pV p).mem_iff
 rw[h2];exact N' h1 _
def CC{M:ue Dd}:dP d∈M.map dP↔d∈M:=by rw[bz];exact⟨λ⟨q,hq,e⟩=>Ub e▸hq,λh=>⟨d,h,rfl⟩⟩
def cP(L M:ue Dd):ue Dd:=L.filter λd=>decide (dP d∉M.map dP)
def dI:d∈cP L M↔d∈L/\d∉M:=by unfold cP;rw[jt,decide_eq_true_iff,CC]
def lJ:p∈(bT A).map (·.1) ↔ ∃e∈A,p∈(cM e).map (·.1):=by
 constructor
 ·intro h;let⟨r,hr,rfl⟩:=bz.mp h;let⟨e,he,hr⟩:=rj.mp hr;exact⟨e,he,bz.mpr ⟨r,hr,rfl⟩⟩
 ·rintro⟨e,he,h⟩;let⟨r,hr,rfl⟩:=bz.mp h;exact bz.mpr ⟨r,rj.mpr ⟨e,he,hr⟩,rfl⟩
theorem LO.merge(hL:LO L)(hM:LO M)(co:∀d∈L,∀e∈M,nm d=nm e->d=e):LO (M++cP L M):=by
 refine⟨?_,λd hd=>?_,λA d B e p hp=>?_⟩
 ·rw[d9,gc];refine⟨hM.nd,tf (List.Sublist.map _ kc) hL.nd,λa ha b hb e=>?_⟩;let⟨x,hx,rfl⟩:=bz.mp ha;let⟨y,hy,rfl⟩:=bz.mp hb;let⟨y1,y2⟩:=dI.mp hy;exact y2 (co y y1 x hx e.symm▸hx)
 ·rcases ai.mp hd with hd|hd
  ·exact hM.ok d hd
  ·exact hL.ok d (dI.mp hd).1
 ·rcases List.append_eq_append_iff.mp e with⟨A',eA,eB⟩|⟨C,eA,eB⟩
  ·-- behind M
   unfold cP at eB;let⟨l1,l2,el,f1,f2⟩:=List.filter_eq_append_iff.mp eB;let⟨m1,m2,em,g1,g2,g3⟩:=List.filter_eq_cons_iff.mp f2;have:=hL.cl (l1++m1) d m2 (by rw[el,em,ak]) p hp;let⟨x,hx,hp'⟩:=lJ.mp this;refine lJ.mpr ⟨x,?_,hp'⟩;rw[eA];rcases ai.mp hx with hx|hx
   ·by_cases c:x∈M
    ·exact b0 _ c
    ·refine ah _ ?_;rw[<-f1];exact jt.mpr ⟨hx,decide_eq_true λz=>c (CC.mp z)⟩
   ·have:=g1 x hx;refine b0 _ ?_
    by_cases c:x∈M
    ·exact c
    ·exact(this (decide_eq_true λz=>c (CC.mp z))).elim
  ·-- within M
   cases C with
   |nil=>
    rw[jd]at eB;rw[dz]at eA;unfold cP at eB;let⟨m1,m2,em,g1,g2,g3⟩:=List.filter_eq_cons_iff.mp eB.symm;have:=hL.cl m1 d m2 em p hp;let⟨x,hx,hp'⟩:=lJ.mp this;refine lJ.mpr ⟨x,?_,hp'⟩;rw[<-eA]
    by_cases c:x∈M
    ·exact c
    ·exact(g1 x hx (decide_eq_true λz=>c (CC.mp z))).elim
   |cons y C=>rw[j2,iu]at eB;exact hM.cl A d C (by rw[eA,eB.1]) p hp
def EH{L:ue Dd}(h:(L.map nm).Nodup):L.Nodup:=List.Pairwise.of_map nm (λa b h z=>h (congrArg nm z)) h
def GH(hL:LO (L++cP M L))(hM:LO (M++cP L M)):(L++cP M L).Perm (M++cP L M):=by
 rw[qq (EH hL.nd) (EH hM.nd)];intro d;rw[ai,ai,dI,dI];constructor
 ·rintro(h|h)
  ·by_cases c:d∈M
   ·exact .inl c
   ·exact .inr ⟨h,c⟩
  ·exact .inl h.1
 ·rintro(h|h)
  ·by_cases c:d∈L
   ·exact .inl c
   ·exact .inr ⟨h,c⟩
  ·exact .inl h.1
def IR{h:PH}(t:gC h a d (Rl L))(lo:LO (L++[dd]))(kR:Rk (Rl L))(Q:PV->PH->Prop)(k:∀h',(∀i o,i≠d->h[i]?=a_ o->h'[i]?=a_ o)->bC h' d=a_ (kvR (Rl (L++[dd])))->Q .non h'):(oJ [.ref a,dP dd] h).W Q:=by
 refine kW ?_;unfold GC;have er:=lo.row;have lR:=kR.len;let⟨hd,n,sn,ac⟩:=dd;have mv:mV 0 [c_ a,a_ (dP ⟨hd,n,sn,ac⟩)] h=.ok (.ref a) h:=rfl;have ok:=(lo.ok ⟨hd,n,sn,ac⟩ (by simp)).1
 show Fl.W (eG _ _ _ [c_ a,a_ (dP ⟨hd,n,sn,ac⟩)] h) _
 rw[fA];cases ac with
 |wr u s w=>
  have e0:aU (aD vEq (aD vAt (aD vAt (mV 1) (q_ 2)) (q_ 0)) (mC (.str "write"))) [c_ a,a_ (dP ⟨hd,n,sn,.wr u s w⟩)] h=.ok true h:=by simp[dP,acP]
  have ma:aA (mV 1) aF [c_ a,a_ (dP ⟨hd,n,sn,.wr u s w⟩)] h=.ok [wr hd n sn u s w] h:=rfl;have en:bX (Rl L++cM ⟨hd,n,sn,.wr u s w⟩) (pV ⟨hd,n,sn,.wr u s w⟩)=Rl L++bP u s hd n w:=Qe _;rw[en]at er;have nd:((Rl L++bP u s hd n w).map (·.1)).Nodup:=by rw[<-er];exact pE (zN _ lo.nd)
  rw[e0,bZ,if_pos (by rfl),yR,U' t (f:=dN) rfl rfl mv,ma,Rs.bind_ok,if_pos (by rfl)];refine N8 t ⋯ u s n hd w sn (by have:=ok.1;omega) ok.2.1 ok.2.2.1 ok.2.2.2 _ λh' f td=>?_;rw[EG _ _ nd,<-er]at td;exact k h' f td
 |ct ps=>
  have ne:¬ (gf "cut")=(gf "write"):=by decide +kernel
  have e0:aU (aD vEq (aD vAt (aD vAt (mV 1) (q_ 2)) (q_ 0)) (mC (.str "write"))) [c_ a,a_ (dP ⟨hd,n,sn,.ct ps⟩)] h=.ok false h:=by simp[dP,acP,ne]
  have ma:aA (aD vAt (aD vAt (mV 1) (q_ 2)) (q_ 2)) aF [c_ a,a_ (dP ⟨hd,n,sn,.ct ps⟩)] h=.ok [.tup (ps.map pl)] h:=by simp[dP,acP]
  have en:bX (Rl L++cM ⟨hd,n,sn,.ct ps⟩) (pV ⟨hd,n,sn,.ct ps⟩)=bX (Rl L) ps:=by
   show bX (Rl L++[]) ps=_
   rw[dz]
  rw[en]at er;rw[e0,bZ,if_neg nofun,yR,U' t (f:=fO) rfl rfl mv,ma,Rs.bind_ok,if_pos (by rfl)];refine U9 t ⋯ kR.hp kR.nd ps _ (.inl rfl) _ λ_ h' _ f td _ _ _ _=>?_;rw[<-er]at td;exact k h' f td
def IS{α:Type}(c:α->Bool)(f:α->PV)(l:ue α):l.filterMap (λy=>if c y=true then a_ (f y) else b_)=(l.filter c).map f:=by
 induction l with
 |nil=>rfl
 |cons x l ih=>
  by_cases hx:c x=true
  ·rw[om,if_pos hx,List.filter_cons_of_pos hx,dn,ih]
  ·rw[om,if_neg hx,List.filter_cons_of_neg hx,ih]
section
variable{α:Type}[DecidableEq α]{f:α->PV}
def kvF(f:α->PV)(L:ue α):ue (PV×PV):=L.map λx=>(f x,.bl true)
def pF(f:α->PV)(x:α):PV:=.tup [f x,.bl true]
def zO(inj:∀x y,f x=f y->x=y)(L:ue α)(p:α):(bQ (kvF f L) (f p)).isSome=decide (p∈L):=by
 induction L with
 |nil=>rfl
 |cons q L ih=>
  unfold kvF at ih⊢;by_cases e:q=p
  ·simp[bQ,e]
  ·have h1:f q≠f p:=λz=>e (inj _ _ z);have h2:¬ p=q:=λz=>e z.symm;simp[bQ,h1,h2,ih]
theorem CD(kt:∀x,(f x).isKt=true):∀L:ue α,gM (L.map (pF f))=a_ (kvF f L)
 |[]=>rfl
 |p::L=>by
  show gM (.tup [f p,.bl true]::L.map (pF f))=_
  unfold gM;rw[if_pos (kt p),CD kt L];rfl
theorem CF(inj:∀x y,f x=f y->x=y):∀(ts us:ue α),∃vs,uK (kvF f us) (kvF f ts)=kvF f vs/\(∀x,x∈vs↔x∈us\/x∈ts)/\vs.length<=us.length+ts.length
 |[],us=>⟨us,rfl,λx=>by simp,by simp⟩
 |x::ts,us=>by
  have ep:kA (kvF f us) (f x) (.bl true)=kvF f (if x∈us then us else us++[x]):=by
   unfold kA;rw[zO inj];by_cases c:x∈us
   ·rw[if_pos (l_ c),if_pos c];unfold kvF;rw[oj];refine o5 λy _=>?_
    show(if f y=f x then(f y,PV.bl true) else(f y,PV.bl true))=_
    split <;> rfl
   ·rw[if_neg (l_ c),if_neg c];simp[kvF]
  let⟨vs,e,m,l⟩:=CF inj ts (if x∈us then us else us++[x]);refine⟨vs,?_,λy=>?_,?_⟩
  ·rw[<-e,<-ep];rfl
  ·rw[m y];by_cases c:x∈us
   ·rw[if_pos c];constructor
    ·rintro(h|h)
     ·exact .inl h
     ·exact .inr (aj _ h)
    ·rintro(h|h)
     ·exact .inl h
     ·rcases bx.mp h with rfl|h
      ·exact .inl c
      ·exact .inr h
   ·rw[if_neg c];simp only[ai,cw,bx,ku,or_false];constructor
    ·rintro((h|h)|h)
     ·exact .inl h
     ·exact .inr (.inl h)
     ·exact .inr (.inr h)
    ·rintro(h|h|h)
     ·exact .inl (.inl h)
     ·exact .inl (.inr h)
     ·exact .inr h
  ·have:(if x∈us then us else us++[x]).length<=us.length+1:=by split <;> simp
   simp only[dm];omega
def RX{h:PH}{L:ue α}(inj:∀x y,f x=f y->x=y)(kt:∀x,(f x).isKt=true)(ei:eK δ i=c_ n)(g:h[n]?=a_ (.lst (L.map f)))(lL:L.length<=1000):
  ∃h' m vs,Ext h h'/\bC h' m=a_ (kvF f vs)/\(∀x,x∈vs↔x∈L)/\mCB oF (aA (cK [b_] (aZ (mV i)) (gN 0) uF (bW (aA (mV 0) (aA (mC (.bl true)) aF)))) aF) δ h=.ok (.ref m) h':=by
 have hc:=jE (js:=[b_]) (tg:=gN 0) (tst:=uF) (elt:=bW (aA (mV 0) (aA (mC (.bl true)) aF))) (δ:=δ) (h:=h) (h1:=h) (n:=n) (m:=mV i) (ys:=L) (emb:=f) (λp=>a_ (pF f p)) (by rw[jT,ei]) g ⋯
  (λp hp=>⟨[a_ (f p)],rfl,λh' _=>⟨rfl,by simp[pF]⟩⟩)
 have e1:L.filterMap (λp=>a_ (pF f p))=L.map (pF f):=List.filterMap_eq_map (f:=pF f)▸rfl;rw[e1]at hc;have g4:(h++[MO.lst (L.map (pF f))])[h.length]?=a_ (.lst (L.map (pF f))):=aT;have y4:=Ext.app h [MO.lst (L.map (pF f))];generalize h++[MO.lst (L.map (pF f))]=h4 at hc g4 y4;let⟨vs,e,m,_⟩:=CF inj L [];have hd:oF [.ref h.length] h4=.ok (.ref h4.length) (h4++[.dD (kvF f vs)]):=by unfold oF;simp only[g4,CD kt];have e0:kvF f []=[]:=rfl;rw[e0]at e;rw[e]
 refine⟨h4++[.dD (kvF f vs)],h4.length,vs,y4.trans (Ext.app _ _),Iv aT,λx=>by rw[m x];simp,?_⟩;rw[Cc,fF,hc,Rs.bind_ok,jU,Rs.bind_ok,Rs.bind_ok,hd]
def RY{h:PH}{L:ue α}(inj:∀x y,f x=f y->x=y)(tup:∀x,∃xs,f x=.tup xs/\(PV.tup xs).ky 6=true)(ei:eK δ i=c_ n)(ej:eK δ j=c_ m)(g:h[n]?=a_ (.lst (L.map f)))(t:bC h m=a_ (kvF f vs))(lL:L.length<=1000):
  ∃h' n T,Ext h h'/\h'[n]?=a_ (.lst (T.map f))/\T=L.filter (λx=>decide (x∈vs))/\cK [b_,a_ j] (aZ (mV i)) (gN 0) (aU (aD fN (mV 0) (mV 1))) (mV 0) δ h=.ok (.ref n) h':=by
 have hc:=jE (js:=[b_,a_ j]) (tg:=gN 0) (tst:=aU (aD fN (mV 0) (mV 1))) (elt:=mV 0) (δ:=δ) (h:=h) (h1:=h) (n:=n) (m:=mV i) (ys:=L) (emb:=f) (λp=>if decide (p∈vs)=true then a_ (f p) else b_) (by rw[jT,ei]) g ⋯
  (λp hp=>⟨[a_ (f p),c_ m],by simp[mK,ej],λh' hx=>by
   let⟨xs,ex,ky⟩:=tup p;have e2:fN (f p) (.ref m) h'=.ok (.bl (decide (p∈vs))) h':=by rw[<-zO inj,ex,uN];exact Gr (cT hx t) ky
   by_cases c:p∈vs
   ·simp[c]at e2;simp[c,e2]
   ·simp[c]at e2;simp[c,e2]⟩)
 rw[IS (λp:α=>decide (p∈vs)) f L]at hc;exact⟨_,_,_,Ext.app _ _,aT,rfl,hc⟩
end
def xO(a b:ue St×Nat)(h:rwP a=rwP b):a=b:=by
 let⟨p,c⟩:=a;let⟨p',c'⟩:=b;unfold rwP at h;simp only[PV.tup.injEq,iu,PV.str.injEq,Str.mk.injEq]at h;have h2:c=c':=by simpa using h.2.1
 rw[iG h.1,h2]
def CG(r:ue St×Nat):∃xs,rwP r=.tup xs/\(PV.tup xs).ky 6=true:=by
 refine⟨[pl r.1,.str ⟨#[r.2]⟩],rfl,?_⟩
 show([pl r.1,PV.str ⟨#[r.2]⟩]).all (PV.ky 5)=true
 rw[ie,cg];refine⟨?_,rfl⟩
 show(r.1.map stp).all (PV.ky 4)=true
 rw[j3];exact ay.mpr λy _=>rfl
def Ni(r:ue St×Nat):(rwP r).isKt=true:=(CG r).elim λxs h=>by rw[h.1];exact h.2
def Qm{A B:k_ 0}(sA:SRt A)(sB:SRt B)(nA:(A.map (·.1)).Nodup)(nB:(B.map (·.1)).Nodup):A.filter (λx=>decide (x∈B))=B.filter (λx=>decide (x∈A)):=by have ndl:∀{l:k_ 0},(l.map (·.1)).Nodup->l.Nodup:=λ{l} h=>List.Pairwise.of_map jv (λa b h z=>h (congrArg jv z)) h;refine SRt.uniq (List.Pairwise.sublist kc sA) (List.Pairwise.sublist kc sB) ?_ (pE nA);rw[qq (tf kc (ndl nA)) (tf kc (ndl nB))];intro r;rw[jt,jt,decide_eq_true_iff,decide_eq_true_iff];exact And.comm
def at3{x:Nat->PV}{i:Nat}(hi:i<3):atI [x 0,x 1,x 2] (i:Int)=a_ (x i):=by
 refine jZ ?_;have:i=0\/i=1\/i=2:=⋯;rcases this with rfl|rfl|rfl <;> rfl
def RZ{D:uf PV->Ev}{ldk ln a d s t tt:Nat}{as:ue PV}{ns L:ue Dd}{h:PH}{E:FE}(D8:∀x y,(D x).set 8 (a_ y)=D (a_ y))(e0:∀x,eK (D x) 0=c_ ldk)(et:∀x,eK (D x) t=d_ (tt:Int))(e8:∀y,eK (D (a_ y)) 8=a_ y)(es:∀x,eK (D x) s=c_ ln)(gdk:h[ldk]?=a_ (.lst as))(ga:atI as (tt:Int)=c_ a)(gn:h[ln]?=a_ (.lst (ns.map dP)))(sg:gC h a d (Rl L))(lo:LO (L++ns))(bd:∀q,Rk (Rl (L++ns.take q))){x8:uf PV}
  (k:∀x8 h',(∀i o,i≠d->h[i]?=a_ o->h'[i]?=a_ o)->bC h' d=a_ (kvR (Rl (L++ns)))->E.nx (D x8) h'):
  (eN (aZ (mV s)) (gN 8) (mJ (cG 2 oJ (aA (aD vAt (mV 0) (mV t)) (aA (mV 8) aF)))) (D x8) h).W E:=by
 have nl:=cL gn sg.2;have nk:=cL gdk sg.2;have na:=CA sg sg.2;refine nY (n:=ln) (xs:=ns.map dP) (h1:=h) (λq δ h'=>(∀i o,i≠d->h[i]?=a_ o->h'[i]?=a_ o)/\bC h' d=a_ (kvR (Rl (L++ns.take q)))/\∃x8,δ=D x8) (by rw[jT,es]) gn ⟨λ_ _ _ e=>e,by rw[qv,dz];exact sg.2,_,rfl⟩ (λq δ h' _ hh=>hh.1 _ _ nl gn) ?_ ?_
 ·rintro q x δ h' hx ⟨k1,k2,x8,rfl⟩;rw[ar]at hx;let⟨e,he,rfl⟩:=br.mp hx;refine⟨D (a_ (dP e)),by rw[<-D8 x8];rfl,?_⟩;have htk:ns.take (q+1)=ns.take q++[e]:=by rw[ka,he];rfl
  have hargs:aA (aD vAt (mV 0) (mV t)) (aA (mV 8) aF) (D (a_ (dP e))) h'=.ok [.ref a,dP e] h':=by simp[e0,et,e8,fX (k1 _ _ nk gdk),ga]
  have lo':LO ((L++ns.take q)++[e]):=by rw[ak,<-htk];refine LO.pre (B:=ns.drop (q+1)) ?_;rw[ak,b8];exact lo
  rw[yR,fW,hargs,Rs.bind_ok,if_pos (by rfl)];refine IR ⟨k1 _ _ na sg.1,k2⟩ lo' (bd q) _ λh2 f2 td2=>?_;refine⟨λi o hi ho=>f2 i o hi (k1 i o hi ho),?_,_,rfl⟩;rw[htk,<-ak];exact td2
 ·rintro δ h' ⟨k1,k2,x8,rfl⟩;rw[aq,o9]at k2;exact k x8 h' k1 k2
structure WO(a d g:Nat->Nat)(L:Nat->ue Dd)(ldk lgs:Nat)(h:PH):Prop where
 dk:h[ldk]?=some (.lst [.ref (a 0),.ref (a 1),.ref (a 2)])
 gk:h[lgs]?=some (.lst [.ref (g 0),.ref (g 1),.ref (g 2)])
 sg:∀i,i<3->gC h (a i) (d i) (Rl (L i))
 lg:∀i,i<3->h[g i]?=some (.lst ((L i).map dP))
 nd:∀i,i<3->∀j,j<3->i≠j->d i≠d j
 ng:∀i,i<3->∀j,j<3->i≠j->g i≠g j
 ns:∀i,i<3->g i≠lgs/\g i≠ldk
 nk:lgs≠ldk
theorem WO.ext{a d g:Nat->Nat}{L:Nat->ue Dd}(W:WO a d g L ldk lgs h)(x:Ext h h'):WO a d g L ldk lgs h':=⟨x _ _ W.dk,x _ _ W.gk,λi hi=>(W.sg i hi).ext x,λi hi=>x _ _ (W.lg i hi),W.nd,W.ng,W.ns,W.nk⟩
theorem WO.at{a d g:Nat->Nat}{L:Nat->ue Dd}{ldk lgs:Nat}{h:PH}(W:WO a d g L ldk lgs h){i:Nat}(hi:i<3):vIx (.ref ldk) (.int (i:Int)) h=.ok (.ref (a i)) h/\vIx (.ref lgs) (.int (i:Int)) h=.ok (.ref (g i)) h:=by
 have e1:=at3 (x:=λi=>.ref (a i)) hi;have e2:=at3 (x:=λi=>.ref (g i)) hi;constructor
 ·rw[fX W.dk,e1];rfl
 ·rw[fX W.gk,e2];rfl
def at2{α:Type}(f:Nat->α)(i:Nat)(x:α):Nat->α:=λk=>if k=i then x else f k
theorem WO.hear{a d g:Nat->Nat}{L:Nat->ue Dd}{h h':PH}(W:WO a d g L ldk lgs h)(hi:i<3)(f:∀n o,n≠d i->h[n]?=a_ o->h'[n]?=a_ o)(td:bC h' (d i)=a_ (kvR (Rl M))):
  h'[ldk]?=a_ (.lst [.ref (a 0),.ref (a 1),.ref (a 2)])/\h'[lgs]?=a_ (.lst [.ref (g 0),.ref (g 1),.ref (g 2)])/\gC h' (a i) (d i) (Rl M)/\(∀j,j<3->j≠i->gC h' (a j) (d j) (Rl (L j)))/\(∀j,j<3->h'[g j]?=a_ (.lst ((L j).map dP))):=
 ⟨f _ _ (cL W.dk (W.sg i hi).2) W.dk,f _ _ (cL W.gk (W.sg i hi).2) W.gk,⟨f _ _ (CA (W.sg i hi) (W.sg i hi).2) (W.sg i hi).1,td⟩,λj hj ne=>(W.sg j hj).fr (W.sg i hi).2 (W.nd j hj i hi ne) f,λj hj=>f _ _ (cL (W.lg j hj) (W.sg i hi).2) (W.lg j hj)⟩
def S0(d:Dd)(hs:d.sn.pl 38=true):(dP d).pl 39=true:=by
 let⟨hd,n,sn,ac⟩:=d;have e2:∀p:ue St,(pl p).pl 36=true:=λp=>by
  show(p.map stp).all (PV.pl 35)=true
  rw[j3];exact ay.mpr λy _=>rfl
 have e3:(acP ac).pl 38=true:=by
  cases ac with
  |wr u s w=>
   have e:(pl u).pl 37=true:=by
    show(u.map stp).all (PV.pl 36)=true
    rw[j3];exact ay.mpr λy _=>rfl
   show([PV.str "write",.tup [.str "t",.int 1],pl u,.int s,.str w]).all (PV.pl 37)=true
   simp only[ie,List.all_nil,Bool.and_true,cg];exact⟨rfl,rfl,e,rfl,rfl⟩
  |ct ps=>
   show([PV.str "cut",.tup [.str "t",.int 1],.tup (ps.map pl)]).all (PV.pl 37)=true
   simp only[ie,List.all_nil,Bool.and_true,cg];refine⟨rfl,rfl,?_⟩
   show(ps.map pl).all (PV.pl 36)=true
   rw[j3];exact ay.mpr λy _=>e2 y
 show([PV.tup [.str hd,.int n],sn,acP ac]).all (PV.pl 38)=true
 simp only[ie,List.all_nil,Bool.and_true,cg];exact⟨rfl,hs,e3⟩
def Uc{L:ue Dd}(lo:LO L):(L.map dP).all (PV.pl 39)=true:=by rw[j3,ay];exact λd hd=>S0 d (lo.ok d hd).2
def Bu{a d g:Nat->Nat}{L:Nat->ue Dd}{ldk lgs:Nat}{h:PH}(W:WO a d g L ldk lgs h){δ:Ev}{i j x y:Nat}(hi:i<3)(hj:j<3)(e1:eK δ 1=c_ lgs)(ex:eK δ x=d_ (i:Int))(ey:eK δ y=d_ (j:Int))(lo:LO (L i))(lo':LO (L j))(ll:(L i).length<=1000):
  cK [b_,a_ 1,a_ y] (aZ (aD vAt (mV 1) (mV x))) (gN 0) (aU (aD cD (mV 0) (aD vAt (mV 1) (mV 2)))) (mV 0) δ h=.ok (.ref h.length) (h++[.lst ((cP (L i) (L j)).map dP)]):=by
 have hc:=jE (js:=[b_,a_ 1,a_ y]) (tg:=gN 0) (tst:=aU (aD cD (mV 0) (aD vAt (mV 1) (mV 2)))) (elt:=mV 0) (δ:=δ) (h:=h) (h1:=h) (n:=g i) (m:=aD vAt (mV 1) (mV x)) (ys:=L i) (emb:=dP) (λp=>if decide (dP p∉(L j).map dP)=true then a_ (dP p) else b_) (by simp[e1,ex,(W.at hi).2]) (W.lg i hi) ⋯
  (λp hp=>⟨[a_ (dP p),c_ lgs,d_ (j:Int)],by simp[mK,e1,ey],λh' hx=>by
   have W':=W.ext hx;have e2:cD (dP p) (.ref (g j)) h'=.ok (.bl (!decide (dP p∈(L j).map dP))) h':=by have e3:cD (dP p) (.ref (g j)) h'=fY (dP p) (.ref (g j)) h':=sI;rw[e3,Eh (W'.lg j hj),Gb (W'.lg j hj) (S0 p (lo.ok p hp).2) (Uc lo')]
   by_cases c:dP p∈(L j).map dP
   ·rw[decide_eq_true c]at e2;have e4:decide (dP p∉(L j).map dP)=false:=decide_eq_false λz=>z c;simp only[e4];simp[(W'.at hj).2,e2]
   ·rw[decide_eq_false c]at e2;have e4:decide (dP p∉(L j).map dP)=true:=decide_eq_true c;simp only[e4,if_true];simp[(W'.at hj).2,e2]⟩)
 rw[IS (λp:Dd=>decide (dP p∉(L j).map dP)) dP (L i)]at hc;exact hc
noncomputable def mB:Ms:=aL (bD 9 (dX "rows" 0 pD (aD vAt (mV 0) (mV 2)) aF))
 (aL (eG (aU (aD vNe (mV 9) (dX "rows" 0 kY (aD vAt (mV 0) (mV 3)) aF)))
  (dH (mC (.bl false)))
  fJ)
 (aL (bD 10 (mCB oF (aA (cK [b_] (aZ (mV 9)) (gN 0) uF (bW (aA (mV 0) (aA (mC (.bl true)) aF)))) aF)))
 (aL (eN (aZ (fU (aA (mV 4) (aA (mV 5) aF)))) (gN 11) zH)
 (dH (mC (.bl true))))))
def Wr{a d g:Nat->Nat}{L:Nat->ue Dd}{ldk lgs l4 l5:Nat}{h:PH}(W:WO a d g L ldk lgs h){i j:Nat}(hi:i<3)(hj:j<3)(p:(L i).Perm (L j))(ki:Rk (Rl (L i))){S1 S2:k_ 0}(g4:h[l4]?=a_ (.lst (S1.map rwP)))(g5:h[l5]?=a_ (.lst (S2.map rwP)))(s1:SRt S1)(s2:SRt S2)(k1:Rk S1)(k2:Rk S2){x6 x7 x8 x9 x10 x11 x12:uf PV}{E:FE}(k:∀h',Ext h h'->E.rt (.bl true) h'):
  (mB [c_ ldk,c_ lgs,d_ (i:Int),d_ (j:Int),c_ l4,c_ l5,x6,x7,x8,x9,x10,x11,x12] h).W E:=by
 unfold mB;let⟨S,pS,sS⟩:=sR (W.sg i hi) ki;have kS:=ki.perm pS;let⟨h1,l9,y1,_,g9,e9⟩:=mT (δ:=[c_ ldk,c_ lgs,d_ (i:Int),d_ (j:Int),c_ l4,c_ l5,x6,x7,x8,x9,x10,x11,x12]) (h:=h) (mo:=aD vAt (mV 0) (mV 2)) (tb:=pD) (W.sg i hi) ki pS sS rfl (by simp[(W.at hi).1]);rw[aP,eY,e9,bZ];simp only[di,dj];refine now ?_;have W1:=W.ext y1;have pj:=CB p;let⟨h2,l2,y2,_,g2,e2⟩:=mT (δ:=[c_ ldk,c_ lgs,d_ (i:Int),d_ (j:Int),c_ l4,c_ l5,x6,x7,x8,c_ l9,x10,x11,x12]) (h:=h1) (mo:=aD vAt (mV 0) (mV 3)) (tb:=kY) (W1.sg j hj) (ki.perm pj.symm) (pS.trans pj) sS rfl (by simp[(W1.at hj).1]);have n2:=rX (y2 _ _ g9) g2 (qQ S) (qQ S);have et:aU (aD vNe (mV 9) (dX "rows" 0 kY (aD vAt (mV 0) (mV 3)) aF)) [c_ ldk,c_ lgs,d_ (i:Int),d_ (j:Int),c_ l4,c_ l5,x6,x7,x8,c_ l9,x10,x11,x12] h1=.ok false h2:=by have mv:mV 9 [c_ ldk,c_ lgs,d_ (i:Int),d_ (j:Int),c_ l4,c_ l5,x6,x7,x8,c_ l9,x10,x11,x12] h1=.ok (.ref l9) h1:=rfl;rw[fV,cX,mv,Rs.bind_ok,e2,Rs.bind_ok,n2];simp
 rw[aP,fA,et,bZ,if_neg nofun,iL];refine now ?_;have g92:=y2 _ _ g9;let⟨h3,m3,vs3,y3,t3,v3,e3⟩:=RX (δ:=[c_ ldk,c_ lgs,d_ (i:Int),d_ (j:Int),c_ l4,c_ l5,x6,x7,x8,c_ l9,x10,x11,x12]) (i:=9) xO Ni rfl g92 kS.len;rw[aP,eY,e3,bZ];simp only[di,dj];refine now ?_;have y13:=(y1.trans y2).trans y3;have g93:=y3 _ _ g92;have g43:=y13 _ _ g4;have g53:=y13 _ _ g5;rw[aP];have el:fU (aA (mV 4) (aA (mV 5) aF)) [c_ ldk,c_ lgs,d_ (i:Int),d_ (j:Int),c_ l4,c_ l5,x6,x7,x8,c_ l9,c_ m3,x11,x12] h3=.ok (.ref h3.length) (h3++[.lst [.ref l4,.ref l5]]):=by simp
 have g6:(h3++[MO.lst [.ref l4,.ref l5]])[h3.length]?=a_ (.lst [.ref l4,.ref l5]):=aT;have y4:=Ext.app h3 [MO.lst [.ref l4,.ref l5]];generalize h3++[MO.lst [.ref l4,.ref l5]]=h4 at el g6 y4;refine nY (n:=h3.length) (xs:=[.ref l4,.ref l5]) (h1:=h4) (λq δ h'=>Ext h4 h'/\∃x11 x12,δ=[c_ ldk,c_ lgs,d_ (i:Int),d_ (j:Int),c_ l4,c_ l5,x6,x7,x8,c_ l9,c_ m3,x11,x12]) el g6 ⟨Ext.refl _,_,_,rfl⟩ (λq δ h' _ hh=>hh.1 _ _ g6) ?_ ?_
 ·rintro q x δ h' hx ⟨xx,x11,x12,rfl⟩;obtain⟨lr,T,rfl,gT,sT,kT⟩:∃lr T,x=.ref lr/\h'[lr]?=a_ (.lst (T.map rwP))/\SRt T/\Rk T:=by
   have hq:=(ab.mp hx).1;have:q=0\/q=1:=by simp at hq;omega
   rcases this with rfl|rfl
   ·cases hx
    exact⟨l4,S1,rfl,xx _ _ (y4 _ _ g43),s1,k1⟩
   ·cases hx
    exact⟨l5,S2,rfl,xx _ _ (y4 _ _ g53),s2,k2⟩
  refine⟨[c_ ldk,c_ lgs,d_ (i:Int),d_ (j:Int),c_ l4,c_ l5,x6,x7,x8,c_ l9,c_ m3,c_ lr,x12],rfl,?_⟩;unfold zH;let⟨h5,m5,vs5,y5,t5,v5,e5⟩:=RX (δ:=[c_ ldk,c_ lgs,d_ (i:Int),d_ (j:Int),c_ l4,c_ l5,x6,x7,x8,c_ l9,c_ m3,c_ lr,x12]) (i:=11) xO Ni rfl gT kT.len;rw[nX,eY,e5,bZ];simp only[di,dj];have t35:=cT y5 (cT xx (cT y4 t3));let⟨h6,n6,T1,y6,g66,eT1,f1⟩:=RY (δ:=[c_ ldk,c_ lgs,d_ (i:Int),d_ (j:Int),c_ l4,c_ l5,x6,x7,x8,c_ l9,c_ m3,c_ lr,c_ m5]) (i:=11) (j:=10) xO CG rfl rfl (y5 _ _ gT) t35 kT.len;have g96:=y6 _ _ (y5 _ _ (xx _ _ (y4 _ _ g93)));let⟨h7,n7',T2,y7,g77,eT2,f2⟩:=RY (δ:=[c_ ldk,c_ lgs,d_ (i:Int),d_ (j:Int),c_ l4,c_ l5,x6,x7,x8,c_ l9,c_ m3,c_ lr,c_ m5]) (i:=9) (j:=12) xO CG rfl rfl g96 (cT y6 t5) kS.len;have eq:T1=T2:=by
   have a1:T1=T.filter (λx=>decide (x∈S)):=by rw[eT1];exact k9 λr _=>by rw[decide_eq_decide];exact v3 r
   have a2:T2=S.filter (λx=>decide (x∈T)):=by rw[eT2];exact k9 λr _=>by rw[decide_eq_decide];exact v5 r
   rw[a1,a2];exact Qm sT sS kT.nd kS.nd
  have n7:=rX (y7 _ _ g66) g77 (qQ _) (qQ _);rw[eq,decide_eq_true rfl]at n7;rw[fA,fV,cX,f1,Rs.bind_ok,f2,Rs.bind_ok,n7];simp only[Rs.bind_ok,G9,bZ,Bool.not_true];rw[if_neg nofun,iL];exact⟨((xx.trans y5).trans y6).trans y7,_,_,rfl⟩
 ·rintro δ h' ⟨xx,x11,x12,rfl⟩;refine now ?_;simp;exact k _ ((y13.trans y4).trans xx)
theorem gC.fr2{h h':PH}{a d l:Nat}{R:k_ 0}{xs:ue PV}(t:gC h a d R)(g:h[l]?=a_ (.lst xs))(fr:∀i o,i≠l->h[i]?=a_ o->h'[i]?=a_ o):gC h' a d R:=⟨fr _ _ (λz=>by have:=t.1;rw[z,g]at this;cases this) t.1,let ⟨_,ho,_,hh⟩:=iA t.2;hh _ (fr _ _ (iz (cL g t.2)) ho)⟩
def IT{a g:Nat->Nat}{L:Nat->ue Dd}{ldk lgs ln:Nat}{h:PH}{i s t:Nat}{ns:ue Dd}{δ:Ev}{E:FE}(dk:h[ldk]?=a_ (.lst [.ref (a 0),.ref (a 1),.ref (a 2)]))(gk:h[lgs]?=a_ (.lst [.ref (g 0),.ref (g 1),.ref (g 2)]))(hi:i<3)(gi:h[g i]?=a_ (.lst ((L i).map dP)))(gn:h[ln]?=a_ (.lst (ns.map dP)))(ll:(L i).length+ns.length<=10000)(e1:eK δ 1=c_ lgs)(et:eK δ t=d_ (i:Int))(es:eK δ s=c_ ln)
  (k:∀h',(∀n o,n≠lgs->h[n]?=a_ o->h'[n]?=a_ o)->h.length<h'.length->h'[lgs]?=a_ (.lst [.ref (at2 g i h.length 0),.ref (at2 g i h.length 1),.ref (at2 g i h.length 2)])->h'[h.length]?=a_ (.lst ((L i++ns).map dP))->E.nx δ h'):
  (vZ (aD bO (aD vAt (mV 1) (mV t)) (mV s)) (mV 1) (mV t) δ h).W E:=by
 have e2:=at3 (x:=λi=>.ref (g i)) hi;have ev:aD bO (aD vAt (mV 1) (mV t)) (mV s) δ h=.ok (.ref h.length) (h++[.lst ((L i++ns).map dP)]):=by
  have e3:=Bg gi gn (by rw[aq,aq];omega);rw[<-d9]at e3;have e4:vIx (.ref lgs) (.int (i:Int)) h=.ok (.ref (g i)) h:=by rw[fX gk,e2];rfl
  simp only[cX,jT,e1,et,es,Rs.bind_ok];have e5:vAt (.ref lgs) (.int (i:Int)) h=.ok (.ref (g i)) h:=by simpa using e4
  rw[e5,Rs.bind_ok,e3]
 have x1:=Ext.app h [MO.lst ((L i++ns).map dP)];have gn':(h++[MO.lst ((L i++ns).map dP)])[h.length]?=a_ (.lst ((L i++ns).map dP)):=aT;have ll':(h++[MO.lst ((L i++ns).map dP)]).length=h.length+1:=by simp
 rw[My,ev,bZ];generalize h++[MO.lst ((L i++ns).map dP)]=h1 at x1 gn' ll';have gk1:=x1 _ _ gk;have lt:=(ab.mp gk).1;have p1:=JS (v:=.ref h.length) gk1 (i:=(i:Int)) ⋯ (by simp;omega);simp only[jT,e1,et,bZ];refine⟨_,p1,k _ (λn o ne ho=>by rw[dr (iz ne)];exact x1 _ _ ho) (by rw[qd];omega) ?_ (by rw[dr ⋯];exact gn')⟩;rw[qH gk1];have:i=0\/i=1\/i=2:=⋯;rcases this with rfl|rfl|rfl <;> rfl
def Qn{a d g:Nat->Nat}{L:Nat->ue Dd}{ldk lgs:Nat}{h:PH}(W:WO a d g L ldk lgs h){i j:Nat}(hi:i<3)(hj:j<3)(ij:i≠j)(lo:∀i,i<3->LO (L i))(co:∀i,i<3->∀j,j<3->∀x∈L i,∀y∈L j,nm x=nm y->x=y)(hb:∀K,LO K->(∀e∈K,e∈L i\/e∈L j)->Rk (Rl K)/\K.length<=500)(Q:PV->PH->Prop)
  (k:∀h' gi gj,h.length<=gi->h.length<=gj->WO a d (at2 (at2 g j gj) i gi) (at2 (at2 L j (L j++cP (L i) (L j))) i (L i++cP (L j) (L i))) ldk lgs h'->(∀n o,n≠d i->n≠d j->n≠lgs->h[n]?=a_ o->h'[n]?=a_ o)->Q (.bl true) h'):(uT [.ref ldk,.ref lgs,.int (i:Int),.int (j:Int)] h).W Q:=by
 refine kW ?_;unfold GD;have loi:=lo i hi;have loj:=lo j hj;have bi:=hb (L i) loi λe he=>.inl he;have bj:=hb (L j) loj λe he=>.inr he;have lj':=loi.merge loj (λx hx y hy=>co i hi j hj x hx y hy);have li':=loj.merge loi (λx hx y hy=>co j hj i hi x hx y hy);have mj:∀q,Rk (Rl (L j++(cP (L i) (L j)).take q)):=λq=>(hb _ (LO.pre (B:=(cP (L i) (L j)).drop q) (by rw[ak,b8];exact lj')) λe he=>(ai.mp he).elim .inr λz=>.inl (dI.mp (cz z)).1).1;have mi:∀q,Rk (Rl (L i++(cP (L j) (L i)).take q)):=λq=>(hb _ (LO.pre (B:=(cP (L j) (L i)).drop q) (by rw[ak,b8];exact li')) λe he=>(ai.mp he).elim .inl λz=>.inr (dI.mp (cz z)).1).1;have bi':=hb _ li' λe he=>(ai.mp he).elim .inl λz=>.inr (dI.mp z).1;have bj':=hb _ lj' λe he=>(ai.mp he).elim .inr λz=>.inl (dI.mp z).1
 -- mine,theirs
 let⟨S1,p1,s1⟩:=sR (W.sg i hi) bi.1;let⟨S2,p2,s2⟩:=sR (W.sg j hj) bj.1
 show Fl.W (aL (bD 4 (dX "rows" 0 pC (aD vAt (mV 0) (mV 2)) aF)) _ [c_ ldk,c_ lgs,d_ (i:Int),d_ (j:Int),b_,b_,b_,b_,b_,b_,b_,b_,b_] h) _
 let⟨h1,l4,y1,b4,g4,e4⟩:=mT (δ:=[c_ ldk,c_ lgs,d_ (i:Int),d_ (j:Int),b_,b_,b_,b_,b_,b_,b_,b_,b_]) (h:=h) (mo:=aD vAt (mV 0) (mV 2)) (tb:=pC) (W.sg i hi) bi.1 p1 s1 rfl (by simp[(W.at hi).1]);rw[aP,eY,e4,bZ];simp only[di,dj];refine now ?_;have W1:=W.ext y1;let⟨h2,l5,y2,b5,g5,e5⟩:=mT (δ:=[c_ ldk,c_ lgs,d_ (i:Int),d_ (j:Int),c_ l4,b_,b_,b_,b_,b_,b_,b_,b_]) (h:=h1) (mo:=aD vAt (mV 0) (mV 3)) (tb:=uS) (W1.sg j hj) bj.1 p2 s2 rfl (by simp[(W1.at hj).1]);rw[aP,eY,e5,bZ];simp only[di,dj];refine now ?_;have W2:=W1.ext y2
 -- cP,back
 have c6:=Bu W2 (δ:=[c_ ldk,c_ lgs,d_ (i:Int),d_ (j:Int),c_ l4,c_ l5,b_,b_,b_,b_,b_,b_,b_]) (x:=2) (y:=3) hi hj rfl rfl rfl loi loj ⋯;rw[aP,eY,c6,bZ];simp only[di,dj];have y3:=Ext.app h2 [MO.lst ((cP (L i) (L j)).map dP)];have g6:(h2++[MO.lst ((cP (L i) (L j)).map dP)])[h2.length]?=a_ (.lst ((cP (L i) (L j)).map dP)):=aT;have b6:h.length<=h2.length:=(y1.trans y2).len;generalize h2.length=l6 at g6 b6;generalize h2++[MO.lst ((cP (L i) (L j)).map dP)]=h3 at y3 g6;have W3:=W2.ext y3;refine now ?_;have c7:=Bu W3 (δ:=[c_ ldk,c_ lgs,d_ (i:Int),d_ (j:Int),c_ l4,c_ l5,c_ l6,b_,b_,b_,b_,b_,b_]) (x:=3) (y:=2) hj hi rfl rfl rfl loj loi ⋯;rw[aP,eY,c7,bZ];simp only[di,dj];have y4:=Ext.app h3 [MO.lst ((cP (L j) (L i)).map dP)];have g7:(h3++[MO.lst ((cP (L j) (L i)).map dP)])[h3.length]?=a_ (.lst ((cP (L j) (L i)).map dP)):=aT;have b7:h.length<=h3.length:=((y1.trans y2).trans y3).len;have b5':h.length<=l5:=fv y1.len b5;generalize h3.length=l7 at g7 b7;generalize h3++[MO.lst ((cP (L j) (L i)).map dP)]=h4 at y4 g7;have W4:=W3.ext y4;have y04:=((y1.trans y2).trans y3).trans y4;have g44:=((y2.trans y3).trans y4) _ _ g4;have g54:=(y3.trans y4) _ _ g5;have g64:=y4 _ _ g6;clear y1 y2 y3 y4 W1 W2 W3 c6 c7 e4 e5 g4 g5 g6;refine now ?_
 -- they hear
 rw[aP];refine RZ (D:=λx8=>[c_ ldk,c_ lgs,d_ (i:Int),d_ (j:Int),c_ l4,c_ l5,c_ l6,c_ l7,x8,b_,b_,b_,b_]) (λ_ _=>rfl) (λ_=>rfl) (λ_=>rfl) (λ_=>rfl) (λ_=>rfl) W4.dk (at3 (x:=λi=>.ref (a i)) hj) g64 (W4.sg j hj) lj' mj λx8 h5 f5 td5=>?_;let⟨dk5,gk5,sj5,so5,lg5⟩:=W4.hear hj f5 td5;have si5:=so5 i hi ij;have g75:=f5 _ _ (cL g7 (W4.sg j hj).2) g7;have g65:=f5 _ _ (cL g64 (W4.sg j hj).2) g64;have g45:=f5 _ _ (cL g44 (W4.sg j hj).2) g44;have g55:=f5 _ _ (cL g54 (W4.sg j hj).2) g54;refine now ?_;rw[aP];refine RZ (D:=λx8=>[c_ ldk,c_ lgs,d_ (i:Int),d_ (j:Int),c_ l4,c_ l5,c_ l6,c_ l7,x8,b_,b_,b_,b_]) (λ_ _=>rfl) (λ_=>rfl) (λ_=>rfl) (λ_=>rfl) (λ_=>rfl) dk5 (at3 (x:=λi=>.ref (a i)) hi) g75 si5 li' mi λx8' h6 f6 td6=>?_;have dk6:=f6 _ _ (cL dk5 si5.2) dk5;have gk6:=f6 _ _ (cL gk5 si5.2) gk5;have si6:gC h6 (a i) (d i) (Rl (L i++cP (L j) (L i))):=⟨f6 _ _ (CA si5 si5.2) si5.1,td6⟩;have sj6:=sj5.fr si5.2 (W.nd j hj i hi (iz ij)) f6;have so6:∀m,m<3->m≠i->m≠j->gC h6 (a m) (d m) (Rl (L m)):=λm hm n1 n2=>(so5 m hm n2).fr si5.2 (W.nd m hm i hi n1) f6;have lg6:∀m,m<3->h6[g m]?=a_ (.lst ((L m).map dP)):=λm hm=>f6 _ _ (cL (lg5 m hm) si5.2) (lg5 m hm);have l6n:∀{n:Nat}{xs:ue PV},h5[n]?=a_ (.lst xs)->h6[n]?=a_ (.lst xs):=λ{n xs} e=>f6 _ _ (cL e si5.2) e;have g76:=l6n g75;have g66:=l6n g65;have g46:=l6n g45;have g56:=l6n g55;refine now ?_
 -- the logs
 rw[aP];have lji:=bj'.2;rw[az]at lji;refine IT (a:=a) (L:=L) dk6 gk6 hj (lg6 j hj) g66 ⋯ rfl rfl rfl λh7 f7 lt7 gk7 gj7=>?_;have lgs0:=(ab.mp W.gk).1;have lgs6:=(ab.mp gk6).1;refine now ?_;rw[aP];have ei:at2 g j h6.length i=g i:=if_neg ij;have gi7:h7[at2 g j h6.length i]?=a_ (.lst ((L i).map dP)):=by rw[ei];exact f7 _ _ (W.ns i hi).1 (lg6 i hi)
 have dk7:=f7 _ _ (iz W.nk) dk6;have g77:=f7 _ _ ⋯ g76;have lij:=bi'.2;rw[az]at lij;refine IT (a:=a) (g:=at2 g j h6.length) (L:=L) dk7 gk7 hi gi7 g77 ⋯ rfl rfl rfl λh8 f8 lt8 gk8 gi8=>?_;refine now ?_;have y6:h.length<=h6.length:=by
  have:=y04.len;have h5l:∀n,n<h4.length->n<h5.length:=λn hn=>by
   by_cases c:n=d j
   ·rw[c];exact N9 td5
   ·exact(ab.mp (f5 n _ c (c8 hn))).1
  have h6l:∀n,n<h5.length->n<h6.length:=λn hn=>by
   by_cases c:n=d i
   ·rw[c];exact N9 td6
   ·exact(ab.mp (f6 n _ c (c8 hn))).1
  rcases Nat.lt_or_ge h6.length h.length with z|z
  ·have:=h6l _ (h5l h6.length ⋯);omega
  ·exact z
 have q1:∀m,m<3->at2 (at2 L j (L j++cP (L i) (L j))) i (L i++cP (L j) (L i)) m=if m=i then L i++cP (L j) (L i) else if m=j then L j++cP (L i) (L j) else L m:=λm _=>rfl;have q2:∀m,m<3->at2 (at2 g j h6.length) i h7.length m=if m=i then h7.length else if m=j then h6.length else g m:=λm _=>rfl;have gl:∀m,m<3->g m<h.length:=λm hm=>(ab.mp (W.lg m hm)).1;have sfr:∀{a' d':Nat}{R:k_ 0},gC h6 a' d' R->gC h8 a' d' R:=λ{a' d' R} t=>(t.fr2 gk6 f7).fr2 gk7 f8;have W8:WO a d (at2 (at2 g j h6.length) i h7.length) (at2 (at2 L j (L j++cP (L i) (L j))) i (L i++cP (L j) (L i))) ldk lgs h8:=by
  refine⟨f8 _ _ (iz W.nk) dk7,gk8,λm hm=>?_,λm hm=>?_,W.nd,λm hm m' hm' ne=>?_,λm hm=>?_,W.nk⟩
  ·rw[q1 m hm];by_cases c1:m=i
   ·rw[if_pos c1,c1];exact sfr si6
   ·rw[if_neg c1];by_cases c2:m=j
    ·rw[if_pos c2,c2];exact sfr sj6
    ·rw[if_neg c2];exact sfr (so6 m hm c1 c2)
  ·rw[q1 m hm,q2 m hm];by_cases c1:m=i
   ·rw[if_pos c1,if_pos c1];exact gi8
   ·rw[if_neg c1,if_neg c1];by_cases c2:m=j
    ·rw[if_pos c2,if_pos c2];exact f8 _ _ ⋯ gj7
    ·rw[if_neg c2,if_neg c2];exact f8 _ _ (W.ns m hm).1 (f7 _ _ (W.ns m hm).1 (lg6 m hm))
  ·rw[q2 m hm,q2 m' hm'];have z1:=gl m hm;have z2:=gl m' hm';by_cases c1:m=i
   ·rw[if_pos c1,if_neg (λz=>ne (c1.trans z.symm))];by_cases c2:m'=j
    ·rw[if_pos c2];omega
    ·rw[if_neg c2];omega
   ·rw[if_neg c1];by_cases c2:m=j
    ·rw[if_pos c2];by_cases c3:m'=i
     ·rw[if_pos c3];omega
     ·rw[if_neg c3,if_neg (λz=>ne (c2.trans z.symm))];omega
    ·rw[if_neg c2];by_cases c3:m'=i
     ·rw[if_pos c3];omega
     ·rw[if_neg c3];by_cases c4:m'=j
      ·rw[if_pos c4];omega
      ·rw[if_neg c4];exact W.ng m hm m' hm' ne
  ·rw[q2 m hm];have z3:=(ab.mp W.dk).1;by_cases c1:m=i
   ·rw[if_pos c1];omega
   ·rw[if_neg c1];by_cases c2:m=j
    ·rw[if_pos c2];omega
    ·rw[if_neg c2];exact W.ns m hm
 have e1:at2 (at2 L j (L j++cP (L i) (L j))) i (L i++cP (L j) (L i)) i=L i++cP (L j) (L i):=if_pos rfl;have e2:at2 (at2 L j (L j++cP (L i) (L j))) i (L i++cP (L j) (L i)) j=L j++cP (L i) (L j):=by
  show(if j=i then _ else if j=j then _ else _)=_
  rw[if_neg (iz ij),if_pos rfl]
 have tot:∀n o,n≠d i->n≠d j->n≠lgs->h[n]?=a_ o->h8[n]?=a_ o:=λn o n1 n2 n3 ho=>f8 _ _ n3 (f7 _ _ n3 (f6 _ _ n1 (f5 _ _ n2 (y04 _ _ ho))));have g48:=f8 _ _ ⋯ (f7 _ _ ⋯ g46);have g58:=f8 _ _ ⋯ (f7 _ _ ⋯ g56);refine Wr W8 hi hj (by rw[e1,e2];exact GH li' lj') (by rw[e1];exact bi'.1) g48 g58 s1 s2 (bi.1.perm p1) (bj.1.perm p2) λh9 y9=>?_;exact k h9 _ _ ⋯ y6 (W8.ext y9) λn o n1 n2 n3 ho=>y9 _ _ (tot n o n1 n2 n3 ho)
abbrev Nj:Str:="abcdefghijklmnopqrstuvwxyz"
def Nk:Nj.cps.toList.length=26:=by decide +kernel
def K8:Nj.length=26:=by decide +kernel
def Nl:∀i:Fin 26,Nj.cps.toList[i.val]?=a_ (97+i.val):=by decide +kernel
def Qo{i:Int}(h0:0<=i)(h1:i<26):atI Nj.cps.toList i=a_ (97+i.toNat):=by rw[Ip h0 (by rw[Nk];exact h1)];exact Nl ⟨i.toNat,⋯⟩
def IU(z:Str)(n:Int):(Txt.mul z n).length=z.length*n.toNat:=by
 have h:=PyProof.Rows.len_mul z n;by_cases h0:n<0
 ·rw[if_pos (l_ h0)]at h;have:n.toNat=0:=⋯;rw[this];omega
 ·rw[if_neg (l_ h0)]at h;have e:((n.toNat:Nat):Int)=n:=⋯;have h2:((Txt.mul z n).length:Int)=((z.length*n.toNat:Nat):Int):=by rw[h,Int.natCast_mul,e]
  exact Int.ofNat.inj h2
abbrev tk:Str:="k"
def GJ:tk.length=1:=by decide +kernel
def Nm(h0:0<=n)(h1:n<=8)(h:PH):JN (.str tk) (.int n) h=.ok (.str (Txt.mul tk n)) h:=by simp only[JN];rw[if_pos ⟨by rw[GJ];omega,⋯,⋯⟩]
def hnd(a b:Str)(i:Int):Str:=a++⟨#[97+i.toNat]⟩++b
def Qp(hi:0<=i)(hj:0<=j)(h:hnd a b i=hnd a b j):i=j:=by have e:=congrArg (λz:Str=>z.cps.toList) h;simp only[hnd,app_list]at e;have e1:=List.append_cancel_left (List.append_cancel_right e);have e2:[97+i.toNat]=[97+j.toNat]:=e1;have e3:=List.cons.inj e2;omega
def Np{c s:Int}(hs:1<=s/\s<=8){i j:Nat}(hi:i<j)(hj:j<6)(h:(c+i*s)%26=(c+j*s)%26):False:=by
 obtain⟨d,rfl⟩:∃d,j=i+d:=⟨j-i,⋯⟩;have e:((i+d:Nat):Int)*s=i*s+d*s:=by rw[Int.natCast_add,Int.add_mul]
 rw[e]at h;generalize (i:Int)*s=a at h;have e2:((d:Int)*s)%26=0:=⋯;have cd:d=1\/d=2\/d=3\/d=4\/d=5:=⋯;rcases cd with rfl|rfl|rfl|rfl|rfl <;> simp at e2 <;> omega
def Aj(A B:Str)(c s:Int)(q:Nat):ue Str:=(fg q).map λ(i:Nat)=>hnd A B ((c+(i:Int)*s)%26)
def K9(A B:Str)(c s:Int)(q:Nat):Aj A B c s (q+1)=Aj A B c s q++[hnd A B ((c+(q:Int)*s)%26)]:=by simp[Aj,List.range_succ]
def Qq(A B:Str)(c s:Int)(hs:1<=s/\s<=8){n:Nat}(hn:n<=6):(Aj A B c s n).Nodup:=by
 unfold Aj;refine i9.mpr ?_;refine List.Pairwise.imp_of_mem (λ{i j} hi hj ne e=>?_) (List.nodup_range (n:=n));have h1:=qt.mp hi;have h2:=qt.mp hj;have e:=Qp (l8 _ nofun) (l8 _ nofun) e;rcases Nat.lt_or_gt_of_ne ne with z|z
 ·exact Np hs z ⋯ e
 ·exact Np hs z ⋯ e.symm
def Nq(c:Int)(h:PH)(Q:PV->PH->Prop)(k:∀(hs:ue Str) (l:Nat) h',Ext h h'->h.length<=l->hs.length=3->hs.Nodup->h'[l]?=a_ (.lst (hs.map PV.str))->Q (.ref l) h'):(mR [.int c] h).W Q:=by
 refine kW ?_;unfold Ct;rw[aP];simp(disch:=omega);refine now ?_;rw[aP];simp(disch:=omega);refine now ?_;rw[aP];simp;have x0:Ext h (h++[MO.lst []]):=Ext.app _ _;have g0:(h++[MO.lst []])[h.length]?=a_ (.lst (([]:ue Str).map PV.str)):=aT;generalize h++[MO.lst []]=hA at x0 g0;have ha:0<=c/8%(1+c%8)/\c/8%(1+c%8)<1+c%8:=⟨l8 _ ⋯,nc _ ⋯⟩;generalize c/8%(1+c%8)=a at ha;have hb:0<=1+c%8-1-a/\1+c%8-1-a<=8/\a<=8:=⋯;generalize eA:Txt.mul tk a=A;generalize eB:Txt.mul tk (1+c%8-1-a)=B;have lA:A.length<=8:=by rw[<-eA,IU,GJ];omega
 have lB:B.length<=8:=by rw[<-eB,IU,GJ];omega
 refine now ?_;rw[aP];refine Cd (j:=3) (λq δ h'=>Ext h h'/\h'[h.length]?=a_ (.lst ((Aj A B (c/64) (1+c/3%8) q).map PV.str))/\∃x4 x5,δ=[d_ c,d_ (1+c%8),d_ a,c_ h.length,x4,x5]) (by simp(disch:=omega)) ⋯ ⟨x0,g0,_,_,rfl⟩ ?_ ?_
 ·rintro q δ h' hq ⟨x1,g1,x4,x5,rfl⟩;unfold Bn;rw[aP];have hi:0<=(c/64+(q:Int)*(1+c/3%8))%26/\(c/64+(q:Int)*(1+c/3%8))%26<26:=⟨l8 _ nofun,nc _ nofun⟩;have al:=Qo hi.1 hi.2;have vi:vIx (.str Nj) (.int ((c/64+(q:Int)*(1+c/3%8))%26)) h'=.ok (.str ⟨#[97+((c/64+(q:Int)*(1+c/3%8))%26).toNat]⟩) h':=by rw[Pu (by rw[K8];omega),al];rfl
  have es:=K9 A B (c/64) (1+c/3%8) q;have lq:(Aj A B (c/64) (1+c/3%8) q).length=q:=by simp[Aj]
  simp(disch:=omega) [vi];refine now ?_;have r1:=Nm (n:=a) ha.1 hb.2.2 h';have r2:=Nm (n:=1+c%8-1-a) hb.1 hb.2.1 h';rw[eA]at r1;rw[eB]at r2;have p1:∀x:Nat,bO (.str A) (.str ⟨#[x]⟩) h'=.ok (.str (A++⟨#[x]⟩)) h':=λx=>B8 (by show A.length+1<=_;omega);have p2:∀x:Nat,bO (.str (A++⟨#[x]⟩)) (.str B) h'=.ok (.str (A++⟨#[x]⟩++B)) h':=λx=>B8 (by rw[EA];omega);have ap:=gK (p:=PV.str (hnd A B ((c/64+(q:Int)*(1+c/3%8))%26))) g1 (by rw[aq,lq];omega);unfold hnd at ap es;have il:=oX g1;generalize (c/64+(q:Int)*(1+c/3%8))%26=j at ap al hi es vi;simp[il,r1,r2,p1,p2,ap];refine⟨x1.setN (bq _),?_⟩;rw[qH g1,es,d9];rfl
 ·rintro δ h' ⟨x1,g1,x4,x5,rfl⟩;refine now ?_;have lq:(Aj A B (c/64) (1+c/3%8) 3).length=3:=by simp[Aj]
  have nd:=Qq A B (c/64) (1+c/3%8) ⋯ (n:=3) ⋯;simp;exact k _ _ _ x1 (bq _) lq nd g1
def Qr{h1:PH}{g:PH->Bool}{xs:ue PV}{Q:PV->PH->Prop}(P:Nat->PV->Prop)(e:mi δ h=.ok ⟨xs,g⟩ h1)(hg:∀h,Ext h1 h->g h=true)(hz:xs.length<=16777216)(step:∀i x,xs[i]?=a_ x->∃δ1,tg x (mK js δ)=a_ δ1/\∀h,Ext h1 h->∀Q:PV->PH->Prop,(∀v h',Ext h h'->P i v->Q v h')->(elt δ1 h).W Q)(k:∀l h'(vs:ue PV),Ext h1 h'->h1.length<=l->vs.length=xs.length->h'[l]?=a_ (.lst vs)->(∀i v,vs[i]?=a_ v->P i v)->Q (.ref l) h'):(cK js mi tg uF elt δ h).W Q:=by
 unfold cK;rw[e,Rs.bind_ok];refine Ce (λi h'=>Ext h1 h'/\∃vs:ue PV,vs.length=i/\h'[h1.length]?=a_ (.lst vs)/\∀i v,vs[i]?=a_ v->P i v) xs 0 _ ⟨Ext.app _ _,[],rfl,by simp,λi v hv=>by simp at hv⟩ (λi x h' _ hx hi=>?_) (λh' hi=>?_)
 ·let⟨x1,vs,lv,g1,ov⟩:=hi;have hx:xs[i]?=a_ x:=by simpa using hx
  have hil:=(ab.mp hx).1;let⟨δ1,ht,hs⟩:=step i x hx;refine⟨hg _ x1,δ1,ht,?_⟩;have hY:uF δ1 h'=.ok true h':=rfl;rw[hY,bZ,if_pos rfl];refine hs h' x1 _ λv h2 x2 pv=>?_;refine⟨_,x2 _ _ g1,⋯,(x1.trans x2).setN (bq _),vs++[v],by simp[lv],qH (x2 _ _ g1),λj w hw=>?_⟩;rcases Nat.lt_trichotomy j vs.length with z|z|z
  ·rw[b9 z]at hw;exact ov j w hw
  ·rw[z,au (bq _),r8]at hw;cases hw
   rw[z,lv];exact pv
  ·rw[au ⋯]at hw;have:=(ab.mp hw).1;simp at this;omega
 ·let⟨x1,vs,lv,g1,ov⟩:=hi;rw[j1]at lv;exact⟨hg _ x1,k _ _ vs x1 (bq _) lv g1 ov⟩
def Nr(c k:Int)(h:PH)(Q:PV->PH->Prop)(q:∀N h',Ext h h'->0<=N->N<2147483647->Q (.int N) h')(hk:-1000<=k/\k<=1000):(mQ [.int c,.int k] h).W Q:=by
 refine kW ?_;unfold Cs;rw[aP,fA];have e0:kO (aU (aD vEq (aD fB (mV 0) (q_ 2)) (q_ 1))) (aU (aD vGt (mV 0) (aD LG (q_ 10) (q_ 9)))) [d_ c,d_ k,b_] h=.ok (decide (c%2=1)&&decide (c>1000000000)) h:=by
  by_cases z:c%2=1
  ·simp(disch:=omega) [z]
  ·simp(disch:=omega) [z]
 show Rs.W (kO (aU (aD vEq (aD fB (mV 0) (q_ 2)) (q_ 1))) (aU (aD vGt (mV 0) (aD LG (q_ 10) (q_ 9)))) [d_ c,d_ k,b_] h) _
 rw[e0,bZ];split
 ·simp(disch:=omega);exact q _ _ (Ext.refl _) (l8 _ nofun) (by have:=nc (c/2) (b:=1000000000) nofun;omega)
 ·rw[iL];refine now ?_;rw[aP];simp(disch:=omega);refine now ?_;simp(disch:=omega);exact q _ _ (Ext.refl _) (l8 _ nofun) (nc _ nofun)
def cnt(z:Str)(L:ue Dd):Nat:=(L.filter λd=>decide (d.hd=z)).length
def Ws(d:Dd)(h:PH):vIx (dP d) (.int 0) h=.ok (.tup [.str d.hd,.int d.n]) h:=by simp[dP]
def IV{h:PH}{L:ue Dd}(ei:eK δ i=c_ lg)(g:h[lg]?=a_ (.lst (L.map dP)))(ll:L.length<=1000)(ej:mK js δ=b_::r)(em:∀d h',Ext h h'->me (a_ (dP d)::r) h'=.ok (.str z) h'):
  mCB gH (aA (cK js (aZ (mV i)) (gN 0) (aU (aD vEq (aD vAt (aD vAt (mV 0) (q_ 0)) (q_ 0)) me)) (mV 0)) aF) δ h=.ok (.int (cnt z L:Nat)) (h++[.lst ((L.filter λd=>decide (d.hd=z)).map dP)]):=by
 have hc:=jE (js:=js) (tg:=gN 0) (tst:=aU (aD vEq (aD vAt (aD vAt (mV 0) (q_ 0)) (q_ 0)) me)) (elt:=mV 0) (δ:=δ) (h:=h) (h1:=h) (n:=lg) (m:=mV i) (ys:=L) (emb:=dP) (λd=>if decide (d.hd=z)=true then a_ (dP d) else b_) (by rw[jT,ei]) g ⋯
  (λd hd=>⟨a_ (dP d)::r,by rw[ej];rfl,λh' hx=>by
   have e2:=em d h' hx;by_cases c:d.hd=z
   ·simp[c,e2,Ws]
   ·simp[c,e2,Ws]⟩)
 rw[IS (λd:Dd=>decide (d.hd=z)) dP L]at hc;have e3:=kU (h:=h++[.lst ((L.filter λd=>decide (d.hd=z)).map dP)]) (n:=h.length) aT;rw[aq]at e3;rw[Cc,fF,hc,Rs.bind_ok,jU,Rs.bind_ok,Rs.bind_ok,e3];rfl
def Ud{vs:ue PV}(h:∀(i:Nat) v,vs[i]?=a_ v->∃(z:Str)(c:Int),v=.tup [.str z,.int c]):vs.all (PV.pl 37)=true:=by rw[ay];intro v hv;let⟨i,hi⟩:=ic.mp hv;let⟨z,c,rfl⟩:=h i v hi;rfl
def wY(v:PV):uf PV:=match v with
 |.tup [_,.int c]=>if decide (c>0)=true then a_ v else b_
 |_=>b_
def Nt{vs:ue PV}(h:w∈vs.filterMap wY):w∈vs:=by
 let⟨v,hv,e⟩:=ph.mp h;unfold wY at e;split at e
 ·split at e
  ·cases e;exact hv
  ·cases e
 ·cases e
def Qs{h:PH}{lh lg who:Nat}{hs:ue Str}{L:ue Dd}{z:Str}(gh:h[lh]?=a_ (.lst (hs.map PV.str)))(l3:hs.length=3)(ez:hs[who]?=a_ z)(g:h[lg]?=a_ (.lst (L.map dP)))(ll:L.length<=1000)(Q:PV->PH->Prop)
  (k:∀sn h',Ext h h'->sn.pl 38=true->Q (.tup [.tup [.str z,.int ((1:Int)+(cnt z L:Nat))],sn]) h'):(uR [.ref lh,.int (who:Int),.ref lg] h).W Q:=by
 refine kW ?_;unfold GB
 show Fl.W (aL (bD 3 _) _ [c_ lh,d_ (who:Int),c_ lg,b_,b_] h) _
 rw[aP,eY];let⟨zs,pz,es⟩:=En gh ⋯;have x1:=Ext.app h [MO.lst (zs.map PV.str)];have g1:(h++[MO.lst (zs.map PV.str)])[h.length]?=a_ (.lst (zs.map PV.str)):=aT;have er:aZ (mCB qJ (aA (mV 0) aF)) [c_ lh,d_ (who:Int),c_ lg,b_,b_] h=.ok ⟨zs.map PV.str,uE h.length (zs.map PV.str)⟩ (h++[MO.lst (zs.map PV.str)]):=by
  have e0:mCB qJ (aA (mV 0) aF) [c_ lh,d_ (who:Int),c_ lg,b_,b_] h=.ok (.ref h.length) (h++[MO.lst (zs.map PV.str)]):=by simp[es]
  unfold aZ;rw[e0,Rs.bind_ok];have e3:aS (h++[MO.lst (zs.map PV.str)]) h.length=a_ (zs.map PV.str):=by unfold aS;rw[g1]
  unfold ofSeq;simp only[e3]
 generalize h++[MO.lst (zs.map PV.str)]=h1 at x1 g1 er;have lz:zs.length=3:=by rw[pz.length_eq];exact l3
 refine Qr (λ_ v=>∃(z:Str)(c:Int),v=.tup [.str z,.int c]) er (λh' hx=>by
  have e3:aS h' h.length=a_ (zs.map PV.str):=by unfold aS;rw[hx _ _ g1]
  unfold uE;rw[e3];exact PV.beqs_self _) (by rw[aq];omega) (λi x hx=>?_) λl3' h2 vs x2 b2 lv g2 ov=>?_
 ·rw[ar]at hx;let⟨y,hy,rfl⟩:=br.mp hx;refine⟨[a_ (.str y),c_ lg],rfl,λh' hx' Q' kk=>?_⟩;have c0:=IV (δ:=[a_ (.str y),c_ lg]) (i:=1) (js:=[b_,a_ 0]) (me:=mV 1) (z:=y) (r:=[a_ (.str y)]) rfl (hx' _ _ (x1 _ _ g)) ll rfl (λ_ _ _=>rfl);have ev:bW (aA (mV 0) (aA (mCB gH (aA (cK [b_,a_ 0] (aZ (mV 1)) (gN 0) (aU (aD vEq (aD vAt (aD vAt (mV 0) (q_ 0)) (q_ 0)) (mV 1))) (mV 0)) aF)) aF)) [a_ (.str y),c_ lg] h'=.ok (.tup [.str y,.int (cnt y L:Nat)]) (h'++[.lst ((L.filter λd=>decide (d.hd=y)).map dP)]):=by have mv:mV 0 [a_ (.str y),c_ lg] h'=.ok (.str y) h':=rfl;rw[Pq,fF,mv,Rs.bind_ok,fF,c0,Rs.bind_ok,jU,Rs.bind_ok,Rs.bind_ok,Rs.bind_ok,if_pos (by rw[fm];simp)]
  rw[ev,bZ];exact kk _ _ (Ext.app _ _) ⟨y,_,rfl⟩
 ·simp only[di,dj];refine now ?_;have x12:=x1.trans x2;have c1:=IV (h:=h2) (δ:=[c_ lh,d_ (who:Int),c_ lg,c_ l3',b_]) (i:=2) (js:=[b_,a_ 0,a_ 1]) (me:=aD vAt (mV 1) (mV 2)) (z:=z) (r:=[c_ lh,d_ (who:Int)]) rfl (x12 _ _ g) ll rfl (λd h' hx=>by have e1:atI (hs.map PV.str) (who:Int)=a_ (.str z):=jZ (by rw[ar,ez];rfl);simp[fX (hx _ _ (x12 _ _ gh)),e1]);have y3:=Ext.app h2 [MO.lst ((L.filter λd=>decide (d.hd=z)).map dP)];generalize h2++[MO.lst ((L.filter λd=>decide (d.hd=z)).map dP)]=h3 at c1 y3;rw[aP,eY,cX,Im,Rs.bind_ok,c1,Rs.bind_ok,JM,bZ];simp only[di,dj];refine now ?_;have x13:=x12.trans y3;have g23:=y3 _ _ g2;have c2:=jE (js:=[b_]) (tg:=gN 0) (tst:=aU (aD vGt (aD vAt (mV 0) (q_ 1)) (q_ 0))) (elt:=mV 0) (δ:=[c_ lh,d_ (who:Int),c_ lg,c_ l3',d_ ((1:Int)+(cnt z L:Nat))]) (h:=h3) (h1:=h3) (n:=l3') (m:=mV 3) (ys:=vs) (emb:=id) wY rfl (by rw[List.map_id];exact g23) (by rw[lv,aq];omega)
   (λv hv=>by
    let⟨i,hi⟩:=ic.mp hv;let⟨y,c,rfl⟩:=ov i v hi;refine⟨[a_ (.tup [.str y,.int c])],rfl,λh' _=>?_⟩;by_cases cc:c>0
    ·simp[wY,cc]
    ·simp[wY,cc])
  have g4:(h3++[MO.lst (vs.filterMap wY)])[h3.length]?=a_ (.lst (vs.filterMap wY)):=aT;have y4:=Ext.app h3 [MO.lst (vs.filterMap wY)];generalize h3++[MO.lst (vs.filterMap wY)]=h4 at c2 g4 y4;have e1:atI (hs.map PV.str) (who:Int)=a_ (.str z):=jZ (by rw[ar,ez];rfl);have vt:nT [.ref h3.length] h4=.ok (.tup (vs.filterMap wY)) h4:=by simp[nT,aS,g4]
  have pp:(PV.tup (vs.filterMap wY)).pl 38=true:=by
   show(vs.filterMap wY).all (PV.pl 37)=true
   have:=ay.mp (Ud ov);exact ay.mpr λw hw=>this w (Nt hw)
  simp[fX (x13 _ _ gh),e1,c2,vt];exact k _ h4 (x13.trans y4) pp
def Qt{α:Type}{xs:ue α}(h0:i<=xs.length)(h1:i<=j):iF xs (a_ (i:Int)) (a_ (j:Int))=(xs.drop i).take (j-i):=by
 unfold iF;rw[sC (Int.natCast_nonneg i),sC (Int.natCast_nonneg j),Int.toNat_natCast,Int.toNat_natCast,Nat.min_eq_left h0,List.take_eq_take_iff,dv];rcases Nat.le_total j xs.length with h|h
 ·rw[Nat.min_eq_left h]
 ·rw[Nat.min_eq_right h,Nat.min_self,Nat.min_eq_right (Nat.sub_le_sub_right h i)]
noncomputable def dG:Ms:=aL (uD (cG 2 Bm (aA (mV 9) (aA (mV 10) aF))) (gTp 2 (gCn (gN 12) (gCn (gN 13) gNl))))
 (dH (bW (aA (bW (aA (mV 6) (aA (mV 7) (aA (bW (aA (mC (.str "write")) (aA (bW (aA (mC (.str "t")) (aA (q_ 1) aF))) (aA (mV 12) (aA (mV 13) (aA (cG 2 sL (aA (mV 5) (aA (mV 11) aF))) aF)))))) aF)))) (aA (mV 9) (aA (mV 10) aF)))))
noncomputable def dM3:Ms:=aL (eG (aU (aD vGt (mCB gH (aA (mV 3) aF)) (q_ 150)))
  (bD 11 (q_ 1))
  fJ) dG
noncomputable def dM:Ms:=aL (bD 11 (aD bO (q_ 1) (aD fB (aD jO (mV 5) (q_ 307)) (q_ 4))))
 (aL (eG (aU (aD vEq (aD fB (aD jO (mV 5) (q_ 1301)) (q_ 8)) (q_ 5)))
  (bD 11 (q_ 12))
  fJ) dM3)
noncomputable def dR:Ms:=aL (eG (aU (aD jV (mV 8) (mCB gH (aA (mV 3) aF))))
  (bD 10 (aD vAt (mV 3) (mV 8)))
  fJ) dM
noncomputable def dL:Ms:=aL (eG (aU (aD vGt (mV 8) (q_ 0)))
  (bD 9 (aD vAt (mV 3) (aD Ah (mV 8) (q_ 1))))
  fJ) dR
section
variable{x0 x1 x2 x4 x8 x11 x12 x13:uf PV}{z:Str}{n N:Int}{sn:PV}{lp:Nat}{Ps:ue (ue St)}{h:PH}{E:FE}{l:ue St}{ro:uf (ue St)}
def S4(hl:l.length<=1000)(hr:∀r,ro=a_ r->r.length<=1000/\bef l r=true)(hm:1<=m/\m<=12)(k:∀w:Str,1<=w.length->w.length<=12->Asc w->E.rt (.tup [dP ⟨z,n,sn,.wr (cQ l ro).1 (cQ l ro).2 w⟩,pl l,(ro.map pl).getD .non]) h):
  (dG [x0,x1,x2,x3,x4,d_ N,a_ (.tup [.str z,.int n]),a_ sn,x8,a_ (pl l),a_ ((ro.map pl).getD .non),d_ m,x12,x13] h).W E:=by
 unfold dG;have ha:aA (mV 9) (aA (mV 10) aF) [x0,x1,x2,x3,x4,d_ N,a_ (.tup [.str z,.int n]),a_ sn,x8,a_ (pl l),a_ ((ro.map pl).getD .non),d_ m,x12,x13] h=.ok [pl l,(ro.map pl).getD .non] h:=rfl;rw[aP,LS,fW,ha,Rs.bind_ok,if_pos (by rfl),Ua l ro h hl hr,bZ];refine⟨[x0,x1,x2,x3,x4,d_ N,a_ (.tup [.str z,.int n]),a_ sn,x8,a_ (pl l),a_ ((ro.map pl).getD .non),d_ m,a_ (pl (cQ l ro).1),a_ (.int (cQ l ro).2)],by simp,?_⟩;refine now ?_;simp;exact N5 N m ⋯ h _ λw e a=>k w ⋯ ⋯ a
def S5(gp:h[lp]?=a_ (.lst (Ps.map pl)))(hN:0<=N/\N<2147483647)(hl:l.length<=1000)(hr:∀r,ro=a_ r->r.length<=1000/\bef l r=true)(k:∀w:Str,1<=w.length->w.length<=12->Asc w->E.rt (.tup [dP ⟨z,n,sn,.wr (cQ l ro).1 (cQ l ro).2 w⟩,pl l,(ro.map pl).getD .non]) h):
  (dM [x0,x1,x2,c_ lp,x4,d_ N,a_ (.tup [.str z,.int n]),a_ sn,x8,a_ (pl l),a_ ((ro.map pl).getD .non),x11,x12,x13] h).W E:=by
 unfold dM;have el:=kU gp;rw[aq]at el;have m3:∀m:Int,1<=m/\m<=12->Lt dM3 E [x0,x1,x2,c_ lp,x4,d_ N,a_ (.tup [.str z,.int n]),a_ sn,x8,a_ (pl l),a_ ((ro.map pl).getD .non),d_ m,x12,x13] h:=λm hm=>by
  refine now ?_;unfold dM3;have et:aU (aD vGt (mCB gH (aA (mV 3) aF)) (q_ 150)) [x0,x1,x2,c_ lp,x4,d_ N,a_ (.tup [.str z,.int n]),a_ sn,x8,a_ (pl l),a_ ((ro.map pl).getD .non),d_ m,x12,x13] h=.ok (decide ((150:Int)<(Ps.length:Int))) h:=by simp[el]
  rw[aP,fA,et,bZ];split
  ·rw[eY,Im,bZ];simp only[di,dj];refine now ?_;exact S4 hl hr ⋯ k
  ·rw[iL];refine now ?_;exact S4 hl hr hm k
 have e11:aD bO (q_ 1) (aD fB (aD jO (mV 5) (q_ 307)) (q_ 4)) [x0,x1,x2,c_ lp,x4,d_ N,a_ (.tup [.str z,.int n]),a_ sn,x8,a_ (pl l),a_ ((ro.map pl).getD .non),x11,x12,x13] h=.ok (.int (1+N/307%4)) h:=by simp(disch:=omega)
 rw[aP,eY,e11,bZ];simp only[di,dj];refine now ?_;have et:aU (aD vEq (aD fB (aD jO (mV 5) (q_ 1301)) (q_ 8)) (q_ 5)) [x0,x1,x2,c_ lp,x4,d_ N,a_ (.tup [.str z,.int n]),a_ sn,x8,a_ (pl l),a_ ((ro.map pl).getD .non),d_ (1+N/307%4),x12,x13] h=.ok (decide (N/1301%8=5)) h:=by simp(disch:=omega)
 rw[aP,fA,et,bZ];split
 ·rw[eY,Im,bZ];simp only[di,dj];exact m3 12 ⋯
 ·rw[iL];exact m3 _ ⋯
def Wt(gp:h[lp]?=a_ (.lst (Ps.map pl)))(hN:0<=N/\N<2147483647)(i:Nat)(hi:i<=Ps.length)(hl:∀p∈Ps,p.length<=500)(hb:∀r,Ps[i]?=a_ r->bef (lft Ps i) r=true)(k:∀w:Str,1<=w.length->w.length<=12->Asc w->E.rt (.tup [dP ⟨z,n,sn,.wr (cQ (lft Ps i) (Ps[i]?)).1 (cQ (lft Ps i) (Ps[i]?)).2 w⟩,pl (lft Ps i),((Ps[i]?).map pl).getD .non]) h):
  (dL [x0,x1,x2,c_ lp,x4,d_ N,a_ (.tup [.str z,.int n]),a_ sn,d_ (i:Int),a_ (.tup []),a_ .non,x11,x12,x13] h).W E:=by
 unfold dL;have ll:(lft Ps i).length<=1000:=by
  cases i with
  |zero=>exact cv _
  |succ i=>
   have ha:Ps[i]?=a_ Ps[i]:=c8 _
   show(Ps.getD i []).length<=1000
   rw[av,ha];have:=hl _ (cq ha);exact fv this ⋯
 have hr:∀r,Ps[i]?=a_ r->r.length<=1000/\bef (lft Ps i) r=true:=λr hr=>⟨by have:=hl r (cq hr);omega,hb r hr⟩;have el:=kU gp;rw[aq]at el;have right:∀l:ue St,l=lft Ps i->Lt dR E [x0,x1,x2,c_ lp,x4,d_ N,a_ (.tup [.str z,.int n]),a_ sn,d_ (i:Int),a_ (pl l),a_ .non,x11,x12,x13] h:=λl hl'=>by
  subst hl';refine now ?_;unfold dR;have et:aU (aD jV (mV 8) (mCB gH (aA (mV 3) aF))) [x0,x1,x2,c_ lp,x4,d_ N,a_ (.tup [.str z,.int n]),a_ sn,d_ (i:Int),a_ (pl (lft Ps i)),a_ .non,x11,x12,x13] h=.ok (decide ((i:Int)<(Ps.length:Int))) h:=by simp[el]
  rw[aP,fA,et,bZ];by_cases c:i<Ps.length
  ·rw[if_pos (l_ c)];have er:Ps[i]?=a_ Ps[i]:=c8 c;have ea:atI (Ps.map pl) (i:Int)=a_ (pl Ps[i]):=jZ (by rw[ar,er];rfl);have ev:aD vAt (mV 3) (mV 8) [x0,x1,x2,c_ lp,x4,d_ N,a_ (.tup [.str z,.int n]),a_ sn,d_ (i:Int),a_ (pl (lft Ps i)),a_ .non,x11,x12,x13] h=.ok (pl Ps[i]) h:=by simp[fX gp,ea]
   rw[eY,ev,bZ];simp only[di,dj];refine now ?_;rw[er]at hr k;exact S5 (ro:=a_ Ps[i]) gp hN ll hr k
  ·rw[if_neg (l_ c),iL];refine now ?_;have er:Ps[i]?=b_:=jm ⋯;rw[er]at hr k;exact S5 (ro:=b_) gp hN ll hr k
 rw[aP,fA];cases i with
 |zero=>
  have et:aU (aD vGt (mV 8) (q_ 0)) [x0,x1,x2,c_ lp,x4,d_ N,a_ (.tup [.str z,.int n]),a_ sn,d_ ((0:Nat):Int),a_ (.tup []),a_ .non,x11,x12,x13] h=.ok false h:=by simp
  rw[et,bZ,if_neg nofun,iL];exact right [] rfl
 |succ i=>
  have ea:atI (Ps.map pl) (((i+1:Nat):Int)-1)=a_ (pl (lft Ps (i+1))):=by
   have e1:(((i+1:Nat):Int)-1)=((i:Nat):Int):=⋯;rw[e1];refine jZ ?_;have ha:Ps[i]?=a_ Ps[i]:=c8 _
   show _=a_ (pl (Ps.getD i []))
   rw[av,ar,ha];rfl
  have et:aU (aD vGt (mV 8) (q_ 0)) [x0,x1,x2,c_ lp,x4,d_ N,a_ (.tup [.str z,.int n]),a_ sn,d_ ((i+1:Nat):Int),a_ (.tup []),a_ .non,x11,x12,x13] h=.ok true h:=by simp
  have ev:aD vAt (mV 3) (aD Ah (mV 8) (q_ 1)) [x0,x1,x2,c_ lp,x4,d_ N,a_ (.tup [.str z,.int n]),a_ sn,d_ ((i+1:Nat):Int),a_ (.tup []),a_ .non,x11,x12,x13] h=.ok (pl (lft Ps (i+1))) h:=by have e2:aD Ah (mV 8) (q_ 1) [x0,x1,x2,c_ lp,x4,d_ N,a_ (.tup [.str z,.int n]),a_ sn,d_ ((i+1:Nat):Int),a_ (.tup []),a_ .non,x11,x12,x13] h=.ok (.int (((i+1:Nat):Int)-1)) h:=rfl;have e3:mV 3 [x0,x1,x2,c_ lp,x4,d_ N,a_ (.tup [.str z,.int n]),a_ sn,d_ ((i+1:Nat):Int),a_ (.tup []),a_ .non,x11,x12,x13] h=.ok (.ref lp) h:=rfl;rw[cX,e3,Rs.bind_ok,e2,Rs.bind_ok];generalize (((i+1:Nat):Int)-1)=j at ea;simp[fX gp,ea]
  rw[et,bZ,if_pos (by rfl),eY,ev,bZ];simp only[di,dj];exact right _ rfl
end
def Nu{h:PH}{lh lg lp who:Nat}{hs:ue Str}{L:ue Dd}{Ps:ue (ue St)}{z:Str}{c:Int}(gh:h[lh]?=a_ (.lst (hs.map PV.str)))(l3:hs.length=3)(ez:hs[who]?=a_ z)(g:h[lg]?=a_ (.lst (L.map dP)))(ll:L.length<=1000)(gp:h[lp]?=a_ (.lst (Ps.map pl)))(lP:Ps.length<=1000)(hl:∀p∈Ps,p.length<=500)(hb:∀i r,Ps[i]?=a_ r->bef (lft Ps i) r=true)(Q:PV->PH->Prop)
  (k1:∀sn ps h',Ext h h'->sn.pl 38=true->(∀p∈ps,p∈Ps)->ps.length<=10->Q (.tup [dP ⟨z,(1:Int)+(cnt z L:Nat),sn,.ct ps⟩,.tup [],.non]) h')
  (k2:∀sn i w h',Ext h h'->sn.pl 38=true->i<=Ps.length->1<=w.length->w.length<=12->Asc w->Q (.tup [dP ⟨z,(1:Int)+(cnt z L:Nat),sn,.wr (cQ (lft Ps i) (Ps[i]?)).1 (cQ (lft Ps i) (Ps[i]?)).2 w⟩,pl (lft Ps i),((Ps[i]?).map pl).getD .non]) h'):
  (xI [.ref lh,.int (who:Int),.ref lg,.ref lp,.int c] h).W Q:=by
 refine kW ?_;unfold Cv
 show Fl.W (aL (bD 5 (cG 2 mQ (aA (mV 4) (aA (q_ 1) aF)))) _ [c_ lh,d_ (who:Int),c_ lg,c_ lp,d_ c,b_,b_,b_,b_,b_,b_,b_,b_,b_] h) _
 rw[aP,eY];have m1:cG 2 mQ (aA (mV 4) (aA (q_ 1) aF)) [c_ lh,d_ (who:Int),c_ lg,c_ lp,d_ c,b_,b_,b_,b_,b_,b_,b_,b_,b_] h=mQ [.int c,.int 1] h:=rfl;rw[m1];refine Nr c 1 h _ (λN h1 x1 n0 n1=>?_) ⋯;simp only[di,dj];refine now ?_;have m2:cG 3 uR (aA (mV 0) (aA (mV 1) (aA (mV 2) aF))) [c_ lh,d_ (who:Int),c_ lg,c_ lp,d_ c,d_ N,b_,b_,b_,b_,b_,b_,b_,b_] h1=uR [.ref lh,.int (who:Int),.ref lg] h1:=rfl;rw[aP,LS,m2];refine Qs (x1 _ _ gh) l3 ez (x1 _ _ g) ll _ λsn h2 x2 ps2=>?_;refine⟨[c_ lh,d_ (who:Int),c_ lg,c_ lp,d_ c,d_ N,a_ (.tup [.str z,.int ((1:Int)+(cnt z L:Nat))]),a_ sn,b_,b_,b_,b_,b_,b_],by simp,?_⟩;have x12:=x1.trans x2;have gp2:=x12 _ _ gp;generalize ((1:Int)+(cnt z L:Nat))=n at*;refine now ?_;have wt:∀h3,Ext h h3->(aL (bD 8 (aD fB (aD jO (mV 5) (q_ 4)) (aD bO (mCB gH (aA (mV 3) aF)) (q_ 1))))
 (aL (bD 9 (bW aF))
 (aL (bD 10 (mC .non)) dL)) [c_ lh,d_ (who:Int),c_ lg,c_ lp,d_ c,d_ N,a_ (.tup [.str z,.int n]),a_ sn,b_,b_,b_,b_,b_,b_] h3).W { nx:=λ_ h=>Q .non h,rt:=Q}:=λh3 x3=>by
  have gp3:=x3 _ _ gp;have el:=kU gp3;rw[aq]at el;obtain⟨i,ei,hi⟩:∃i:Nat,N/4%((Ps.length:Int)+1)=i/\i<=Ps.length:=by have h0:=l8 (N/4) (b:=(Ps.length:Int)+1) ⋯;have h1:=nc (N/4) (b:=(Ps.length:Int)+1) ⋯;exact⟨(N/4%((Ps.length:Int)+1)).toNat,⋯,⋯⟩
  rw[aP];simp(disch:=omega) [el,ei];refine now ?_;rw[aP];simp;refine now ?_;rw[aP];simp;refine now ?_;exact Wt gp3 ⟨n0,n1⟩ i hi hl (hb i) λw a1 a2 a3=>k2 sn i w h3 x3 ps2 hi a1 a2 a3
 rw[aP,fA,rV];have e0:aU (aD vEq (aD fB (mV 5) (q_ 4)) (q_ 0)) [c_ lh,d_ (who:Int),c_ lg,c_ lp,d_ c,d_ N,a_ (.tup [.str z,.int n]),a_ sn,b_,b_,b_,b_,b_,b_] h2=.ok (decide (N%4=0)) h2:=by simp(disch:=omega)
 rw[e0,Rs.bind_ok];by_cases c4:N%4=0
 ·rw[if_pos (decide_eq_true c4)];have x3:=Ext.app h2 [MO.lst []];have e1:aU (aD vNe (mV 3) (fU aF)) [c_ lh,d_ (who:Int),c_ lg,c_ lp,d_ c,d_ N,a_ (.tup [.str z,.int n]),a_ sn,b_,b_,b_,b_,b_,b_] h2=.ok (!decide (Ps.map pl=[])) (h2++[.lst []]):=by
   have e2:=rX (x3 _ _ gp2) aT (U8 Ps) rfl;have e3:fU aF [c_ lh,d_ (who:Int),c_ lg,c_ lp,d_ c,d_ N,a_ (.tup [.str z,.int n]),a_ sn,b_,b_,b_,b_,b_,b_] h2=.ok (.ref h2.length) (h2++[.lst []]):=by simp
   have e4:mV 3 [c_ lh,d_ (who:Int),c_ lg,c_ lp,d_ c,d_ N,a_ (.tup [.str z,.int n]),a_ sn,b_,b_,b_,b_,b_,b_] h2=.ok (.ref lp) h2:=rfl;rw[fV,cX,e4,Rs.bind_ok,e3,Rs.bind_ok,e2];rfl
  rw[e1,bZ];have gp3:=x3 _ _ gp2;generalize h2++[MO.lst []]=h3 at gp3 x3;have x13:=x12.trans x3;by_cases s:Ps=[]
  ·rw[if_neg (by simp[s]),iL];exact now (wt h3 x13)
  ·rw[if_pos (by simp[s])];have lS:0<Ps.length:=List.length_pos_iff.mpr s;have el:=kU gp3;rw[aq]at el;obtain⟨i,ei,hi⟩:∃i:Nat,N/4%(Ps.length:Int)=i/\i<Ps.length:=by have h0:=l8 (N/4) (b:=(Ps.length:Int)) ⋯;have h1:=nc (N/4) (b:=(Ps.length:Int)) ⋯;exact⟨(N/4%(Ps.length:Int)).toNat,⋯,⋯⟩
   obtain⟨m,em,hm⟩:∃m:Nat,N/301%4=m/\m<=3:=⟨(N/301%4).toNat,⋯,⋯⟩;rw[nX];simp(disch:=omega) [el,ei,em];have e2:=Px (lo:=a_ (i:Int)) (hi:=a_ ((i:Int)+1+(m:Int))) gp3;have ej:((i:Int)+1+(m:Int))=((i+1+m:Nat):Int):=⋯;rw[ej,Qt (by rw[aq];omega) ⋯,<-ej,<-List.map_drop,<-List.map_take]at e2;obtain⟨ps,eps⟩:∃ps,(Ps.drop i).take (i+1+m-i)=ps:=⟨_,rfl⟩;rw[eps]at e2;have xx:=Ext.app h3 [MO.lst (ps.map pl)];have g9:(h3++[MO.lst (ps.map pl)])[h3.length]?=a_ (.lst (ps.map pl)):=aT;have vt:nT [.ref h3.length] (h3++[MO.lst (ps.map pl)])=.ok (.tup (ps.map pl)) (h3++[MO.lst (ps.map pl)]):=by simp[nT,aS,g9]
   generalize h3++[MO.lst (ps.map pl)]=h9 at e2 xx vt;simp[e2,vt];refine k1 sn ps _ (x13.trans xx) ps2 (λp hp=>by rw[<-eps]at hp;exact d4 (cz hp)) ?_;rw[<-eps,cf];omega
 ·rw[if_neg (l_ c4),bZ,if_neg nofun,iL];exact now (wt h2 x12)
def nH(u:ue St)(s:Int)(hd:Str)(n:Int)(w:Str)(q:Nat):k_ 0:=(gR u s hd n q).zip (w.cps.toList.take q)
def cur(u:ue St)(s:Int)(hd:Str)(n:Int):Nat->ue St
 |0=>u
 |q+1=>kZ u s hd n q
def sdQ(s:Int):Nat->Int
 |0=>s
 |_+1=>1
theorem Nv:∀q:Nat,cur u s hd n q++[⟨sdQ s q,hd,n,(q:Int)⟩]=kZ u s hd n q
 |0=>rfl
 |q+1=>rfl
theorem Qu{u:ue St}:∀q:Nat,(cur u s hd n q).length=u.length+q
 |0=>rfl
 |q+1=>by show(kZ u s hd n q).length=_;rw[iC];omega
def GK{w:Str}(hc:w.cps.toList[q]?=a_ c):nH u s hd n w (q+1)=nH u s hd n w q++[(kZ u s hd n q,c)]:=by have hq:=(ab.mp hc).1;unfold nH;rw[Br,ka,hc,List.zip_append (by rw[lC,cf];omega)];rfl
def K'{w:Str}(hq:q<=w.length):(nH u s hd n w q).length=q:=by have:=len_list w;unfold nH;rw[List.length_zip,lC,cf];omega
def Ka(u:ue St)(s n:Int)(hd w:Str):nH u s hd n w w.length=bP u s hd n w:=by have:=len_list w;unfold nH bP;rw[fi ⋯]
def zP(u:ue St)(s n:Int)(hd w:Str)(sn:PV)(h:PH)(Q:PV->PH->Prop)(hu:u.length<=900)(h1:w.length<=12)(k:Q (.ref h.length) (h++[.lst ((bP u s hd n w).map rwP)])):
  (gQ [wr hd n sn u s w] h).W Q:=by
 refine kW ?_;unfold wr;simp(disch:=omega) [uU,nX];refine Cd (j:=w.length) (λq δ h'=>q<=w.length/\h'=h++[.lst ((nH u s hd n w q).map rwP)]/\∃x0 x2 x7,δ=[x0,a_ (.tup [.str hd,.int n]),x2,a_ (.tup [.str "write",.tup [.str "t",.int 1],pl u,.int s,.str w]),a_ (pl (cur u s hd n q)),d_ (sdQ s q),c_ h.length,x7]) ?_ ?_ ?_ ?_ ?_
 ·simp(disch:=omega)
 ·omega
 ·exact⟨cv _,rfl,_,_,_,rfl⟩
 ·rintro q δ h' hq ⟨_,rfl,x0,x2,x7,rfl⟩;have hq':q<w.length:=⋯;have hlen:=len_list w;obtain⟨c,hc⟩:∃c,w.cps.toList[q]?=a_ c:=⟨_,c8 ⋯⟩;have ha:atI w.cps.toList (q:Int)=a_ c:=jZ hc;have e1:(h++[MO.lst ((nH u s hd n w q).map rwP)])[h.length]?=a_ (.lst ((nH u s hd n w q).map rwP)):=aT;have lp:=K' (u:=u) (s:=s) (n:=n) (hd:=hd) (w:=w) (q:=q) ⋯;have lc:=Qu (u:=u) (s:=s) (n:=n) (hd:=hd) q;have ep:bO (pl (cur u s hd n q)) (.tup [.tup [.int (sdQ s q),.str hd,.int n,.int (q:Int)]]) (h++[MO.lst ((nH u s hd n w q).map rwP)])=.ok (pl (kZ u s hd n q)) (h++[MO.lst ((nH u s hd n w q).map rwP)]):=by rw[<-Nv q];simp(disch:=first|omega|(simp;omega)) [pl,stp]
  simp(disch:=first|omega|(simp;omega)) [wF,nX,ep,oX e1,ha,gK e1]
  exact⟨⋯,by rw[GK hc,d9];rfl,rfl,rfl⟩
 ·rintro δ h' ⟨_,rfl,x0,x2,x7,rfl⟩;simp;rw[Ka];exact k
theorem S6(n:Nat):∀xs ys:ue St,(ltL (ltP (n+1)) (xs.map stp) (ys.map stp)).isSome=true
 |[],[]=>rfl
 |[],y::ys=>rfl
 |x::xs,[]=>rfl
 |x::xs,y::ys=>by
  simp only[dn,ltL];by_cases h:x=y
  ·subst h;simp only[if_true];exact S6 n xs ys
  ·rw[if_neg λz=>h (Cw z),MZ n x y h];rfl
def Ue(S:k_ 0):OkN 2 (S.map rwP):=by
 refine⟨⋯,λv hv=>?_,λv hv=>?_,λv hv u hu=>?_⟩
 ·let⟨r,_,rfl⟩:=bz.mp hv
  show([pl r.1,PV.str ⟨#[r.2]⟩]).all (PV.ky 19)=true
  rw[ie,cg];refine⟨?_,rfl⟩
  show(r.1.map stp).all (PV.ky 18)=true
  rw[j3];exact ay.mpr λy _=>rfl
 ·let⟨r,_,rfl⟩:=bz.mp hv;rfl
 ·let⟨r,_,rfl⟩:=bz.mp hv;let⟨q,_,rfl⟩:=bz.mp hu
  show(ltL (ltP 19) [pl r.1,PV.str ⟨#[r.2]⟩] [pl q.1,PV.str ⟨#[q.2]⟩]).isSome=true
  simp only[ltL];by_cases c:pl r.1=pl q.1
  ·rw[if_pos c];by_cases c2:PV.str ⟨#[r.2]⟩=PV.str ⟨#[q.2]⟩
   ·rw[if_pos c2];rfl
   ·rw[if_neg c2];rfl
  ·rw[if_neg c];exact S6 17 r.1 q.1
def Kb{xs:ue PV}(p:xs.Perm ys)(ok:OkN m ys):cW id xs=cW id ys:=oZ id (λa ha b hb e=>ok.inj a ha b hb e) ((gL id xs).trans p) (iP id xs)
structure As where
 d:Dd
 l:ue St
 r:uf (ue St)
def asP(x:As):PV:=.tup [dP x.d,pl x.l,(x.r.map pl).getD .non]
structure AO(x:As):Prop where
 wr:∃u s w,x.d.ac=.wr u s w/\u.length<=900/\w.length<=12
 lo:x.l≠[]->∀r∈cM x.d,bef x.l r.1=true
 hi:∀q,x.r=some q->∀r∈cM x.d,bef r.1 q=true
def GI(L:ue Dd)(h0:PH)(l3 lr la l2:Nat)(q:Nat)(δ:Ev)(h:PH):Prop:=
 ∃vs ls x0 x2 x5,δ=[x0,c_ lr,x2,c_ l3,c_ ls,x5,b_,b_,b_,b_,b_,b_]/\(∀i o,i≠l3->h0[i]?=a_ o->h[i]?=a_ o)/\bC h l3=a_ (kvF pl vs)/\(∀p,p∈vs↔p∈jJ (L.take q))/\vs.length<=10*q/\h[ls]?=a_ (.lst ((bT (L.take q)).map rwP))/\x0=c_ la/\x2=c_ l2
def Kc{L:ue Dd}{δ:Ev}{E:FE}(lo:LO L)(hq:L[q]?=a_ d)(lL:L.length<=500)(lR:(bT L).length<=1000)(I:GI L h0 l3 lr la l2 q δ h)(k:∀δ h,GI L h0 l3 lr la l2 (q+1) δ h->E.nx δ h):(jG (δ.set 5 (a_ (dP d))) h).W E:=by
 let⟨vs,ls,x0,x2,x5,rfl,f,t,mv,lv,g,ex,ex2⟩:=I;have htk:L.take (q+1)=L.take q++[d]:=by rw[ka,hq];rfl
 have hql:=(ab.mp hq).1;have ok:=(lo.ok d (cq hq)).1;unfold jG
 show Fl.W (eG _ _ _ [x0,c_ lr,x2,c_ l3,c_ ls,a_ (dP d),b_,b_,b_,b_,b_,b_] h) _
 rw[fA];let⟨hd,n,sn,ac⟩:=d;cases ac with
 |wr u s w=>
  have ne:¬ (gf "write")=(gf "cut"):=by decide +kernel
  have e0:aU (aD vEq (aD vAt (aD vAt (mV 5) (q_ 2)) (q_ 0)) (mC (.str "cut"))) [x0,c_ lr,x2,c_ l3,c_ ls,a_ (dP ⟨hd,n,sn,.wr u s w⟩),b_,b_,b_,b_,b_,b_] h=.ok false h:=by simp[dP,acP,ne]
  rw[e0,bZ,if_neg nofun,eY,cX];have ew:gQ [dP ⟨hd,n,sn,.wr u s w⟩] h=.ok (.ref h.length) (h++[.lst ((bP u s hd n w).map rwP)]):=by have:=zP u s n hd w sn h (λp h'=>p=.ref h.length/\h'=h++[.lst ((bP u s hd n w).map rwP)]) (by have:=ok.1;omega) ok.2.2.1 ⟨rfl,rfl⟩;let⟨p,h',e,rfl,rfl⟩:=rT this;exact e
  have mv4:mV 4 [x0,c_ lr,x2,c_ l3,c_ ls,a_ (dP ⟨hd,n,sn,.wr u s w⟩),b_,b_,b_,b_,b_,b_] h=.ok (.ref ls) h:=rfl;have ma:aA (mV 5) aF [x0,c_ lr,x2,c_ l3,c_ ls,a_ (dP ⟨hd,n,sn,.wr u s w⟩),b_,b_,b_,b_,b_,b_] h=.ok [dP ⟨hd,n,sn,.wr u s w⟩] h:=rfl;rw[mv4,Rs.bind_ok,fW,ma,Rs.bind_ok,if_pos (by rfl),ew,Rs.bind_ok];have x1:=Ext.app h [MO.lst ((bP u s hd n w).map rwP)];have g1:(h++[MO.lst ((bP u s hd n w).map rwP)])[h.length]?=a_ (.lst ((bP u s hd n w).map rwP)):=aT;have er:bT (L.take q)++bP u s hd n w=bT (L.take (q+1)):=by rw[htk,iS];simp[bT,cM]
  have lt:(bT (L.take (q+1))).length<=1000:=by
   have e:bT L=bT (L.take (q+1))++bT (L.drop (q+1)):=by rw[<-iS,b8]
   rw[e,az]at lR;omega
  have e3:=Bg (x1 _ _ g) g1 (by rw[<-az,<-d9,er,aq];omega);rw[<-d9,er]at e3;generalize h++[MO.lst ((bP u s hd n w).map rwP)]=h1 at e3 x1;rw[e3,bZ];have x2':=x1.trans (Ext.app h1 [MO.lst ((bT (L.take (q+1))).map rwP)]);refine k _ _ ⟨vs,h1.length,_,_,_,rfl,λi o hi ho=>x2' _ _ (f i o hi ho),cT x2' t,λp=>?_,⋯,aT,ex,ex2⟩;rw[mv p,htk,uX];simp[jJ,pV]
 |ct ps=>
  have e0:aU (aD vEq (aD vAt (aD vAt (mV 5) (q_ 2)) (q_ 0)) (mC (.str "cut"))) [x0,c_ lr,x2,c_ l3,c_ ls,a_ (dP ⟨hd,n,sn,.ct ps⟩),b_,b_,b_,b_,b_,b_] h=.ok true h:=by simp[dP,acP]
  have lps:ps.length<=10:=ok;rw[e0,bZ,if_pos (by rfl),yR];have em:aD vAt (aD vAt (mV 5) (q_ 2)) (q_ 2) [x0,c_ lr,x2,c_ l3,c_ ls,a_ (dP ⟨hd,n,sn,.ct ps⟩),b_,b_,b_,b_,b_,b_] h=.ok (.tup (ps.map pl)) h:=by simp[dP,acP]
  have hc:=JO (js:=[b_]) (tg:=gN 0) (tst:=uF) (elt:=bW (aA (mV 0) (aA (mC (.bl true)) aF))) (δ:=[x0,c_ lr,x2,c_ l3,c_ ls,a_ (dP ⟨hd,n,sn,.ct ps⟩),b_,b_,b_,b_,b_,b_]) (h:=h) (h1:=h) (m:=aD vAt (aD vAt (mV 5) (q_ 2)) (q_ 2)) (ys:=ps) (emb:=pl) (λp=>a_ (pF pl p)) em ⋯
   (λp hp=>⟨[a_ (pl p)],rfl,λh' _=>⟨rfl,by simp[pF]⟩⟩)
  have e1:ps.filterMap (λp=>a_ (pF pl p))=ps.map (pF pl):=List.filterMap_eq_map (f:=pF pl)▸rfl;rw[e1]at hc;have g4:(h++[MO.lst (ps.map (pF pl))])[h.length]?=a_ (.lst (ps.map (pF pl))):=aT;have y4:=Ext.app h [MO.lst (ps.map (pF pl))];generalize h++[MO.lst (ps.map (pF pl))]=h4 at hc g4 y4;have t4:=cT y4 t;let⟨ws,ew,mw,lw⟩:=CF (f:=pl) (λx y z=>iG z) ps vs;have up:=MS t4 g4 (CD (f:=pl) xN ps) (by simp[kvF];omega);rw[ew]at up;let⟨_,_,hD,_⟩:=iA t;have mv3:mV 3 [x0,c_ lr,x2,c_ l3,c_ ls,a_ (dP ⟨hd,n,sn,.ct ps⟩),b_,b_,b_,b_,b_,b_] h=.ok (.ref l3) h:=rfl;rw[Tu,mv3,Rs.bind_ok,if_pos hD,fF,hc,Rs.bind_ok,jU,Rs.bind_ok,Rs.bind_ok,up,bZ];have nl:ls≠l3:=cL g t;refine k _ _ ⟨ws,ls,_,_,_,rfl,λi o hi ho=>?_,xK t4,λp=>?_,⋯,?_,ex,ex2⟩
  ·rw[dr (iz hi)];exact y4 _ _ (f i o hi ho)
  ·rw[mw p,mv p,htk,uX,ai];simp[jJ,pV]
  ·rw[dr (iz nl),y4 _ _ g,htk,iS];simp[bT,cM]
def kvI:Nat->ue (ue St)->ue (PV×PV)
 |_,[]=>[]
 |k,p::l=>(pl p,.int (k:Int))::kvI (k+1) l
theorem sX:∀(k:Nat)(l:ue (ue St)),p∉l->bQ (kvI k l) (pl p)=b_
 |_,[],_=>rfl
 |k,q::l,h=>by have ne:pl q≠pl p:=λz=>h (by rw[iG z];exact aw);unfold kvI bQ;rw[if_neg ne];exact sX (k+1) l λz=>h (aj _ z)
theorem sY:∀(k:Nat)(l:ue (ue St))(i:Nat),l.Nodup->l[i]?=a_ p->bQ (kvI k l) (pl p)=d_ ((k+i:Nat):Int)
 |_,[],_,_,h=>by cases h
 |k,q::l,0,_,h=>by
  cases h
  unfold kvI bQ;rw[if_pos rfl];rfl
 |k,q::l,i+1,nd,h=>by
  have hm:p∈l:=cq (l_ h);have ne:pl q≠pl p:=λz=>(ip.mp nd).1 (by rw[iG z];exact hm);unfold kvI bQ;rw[if_neg ne,sY (k+1) l i (ip.mp nd).2 (l_ h)];congr 2;omega
theorem EI:∀(k:Nat)(l:ue (ue St)),kvI k (l++[p])=kvI k l++[(pl p,.int ((k+l.length:Nat):Int))]
 |k,[]=>rfl
 |k,q::l=>by
  show(pl q,PV.int (k:Int))::kvI (k+1) (l++[p])=(pl q,PV.int (k:Int))::kvI (k+1) l++_
  rw[EI (k+1) l];have:k+1+l.length=k+(q::l).length:=by simp;omega
  rw[this];rfl
theorem IW:∀(k:Nat)(l:ue (ue St)),(kvI k l).length=l.length
 |_,[]=>rfl
 |k,_::l=>by simp[kvI,IW (k+1) l]
def Qv{l:ue (ue St)}(h:p∉l):kA (kvI 0 l) (pl p) (.int (l.length:Nat))=kvI 0 (l++[p]):=by unfold kA;rw[sX 0 l h,if_neg (by simp),EI,j1]
def Kd{h:PH}{R:k_ 0}(e3:eK δ 3=c_ l3)(e4:eK δ 4=c_ ls)(t:bC h l3=a_ (kvF pl vs))(g:h[ls]?=a_ (.lst (R.map rwP)))(lR:R.length<=1000):
  cK [b_,a_ 3] (aZ (mV 4)) (gN 0) (aU (aD cD (aD vAt (mV 0) (q_ 0)) (mV 1))) (mV 0) δ h=.ok (.ref h.length) (h++[.lst ((bX R vs).map rwP)]):=by
 have hc:=jE (js:=[b_,a_ 3]) (tg:=gN 0) (tst:=aU (aD cD (aD vAt (mV 0) (q_ 0)) (mV 1))) (elt:=mV 0) (δ:=δ) (h:=h) (h1:=h) (n:=ls) (m:=mV 4) (ys:=R) (emb:=rwP) (λr=>if decide (r.1∉vs)=true then a_ (rwP r) else b_) (by rw[jT,e4]) g ⋯
  (λr hr=>⟨[a_ (rwP r),c_ l3],by simp[mK,e3],λh' hx=>by
   have e0:vIx (rwP r) (.int 0) h'=.ok (pl r.1) h':=by simp[rwP]
   have e1:cD (pl r.1) (.ref l3) h'=.ok (.bl (decide (r.1∉vs))) h':=by have e2:cD (pl r.1) (.ref l3) h'=fY (pl r.1) (.ref l3) h':=sI;rw[e2];have e5:=JQ (xs:=r.1.map stp) (cT hx t) (Bt r.1);have e6:(bQ (kvF pl vs) (.tup (r.1.map stp))).isSome=decide (r.1∈vs):=(zO (f:=pl) (λx y z=>iG z) vs r.1).trans (decide_eq_decide.mpr Iff.rfl);rw[e6]at e5;exact e5.trans (by congr 2;simp)
   by_cases c:r.1∈vs
   ·simp[c]at e1;simp[c,e0,e1]
   ·simp[c]at e1;simp[c,e0,e1]⟩)
 rw[IS (λr:ue St×Nat=>decide (r.1∉vs)) rwP R]at hc;exact hc
def EJ(S:k_ 0):(cW id (S.map rwP)).all (PV.pl 39)=true:=by rw[ay];intro v hv;exact ay.mp (qQ S) v ((gL id (S.map rwP)).mem_iff.mp hv)
def Nw{h:PH}{S R:k_ 0}(e0:eK δ 0=c_ lr)(e3:eK δ 3=c_ l3)(e4:eK δ 4=c_ ls)(gr:h[lr]?=a_ (.lst (S.map rwP)))(t:bC h l3=a_ (kvF pl vs))(g:h[ls]?=a_ (.lst (R.map rwP)))(lR:R.length<=1000)(p:S.Perm (bX R vs)):
  ∃h',Ext h h'/\aU (aD vNe (mCB hW (aA (mV 0) aF)) (mCB hW (aA (cK [b_,a_ 3] (aZ (mV 4)) (gN 0) (aU (aD cD (aD vAt (mV 0) (q_ 0)) (mV 1))) (mV 0)) aF))) δ h=.ok false h':=by
 have lo:(bX R vs).length<=R.length:=qj _ _;have lS:S.length<=1000:=by rw[p.length_eq];omega
 have s1:=vX gr (by rw[aq];omega) (Ue S);have a1:aA (mV 0) aF δ h=.ok [.ref lr] h:=by rw[fF,jT,e0];rfl
 have x1:=Ext.app h [MO.lst (cW id (S.map rwP))];have g1:(h++[MO.lst (cW id (S.map rwP))])[h.length]?=a_ (.lst (cW id (S.map rwP))):=aT;generalize h++[MO.lst (cW id (S.map rwP))]=h1 at s1 x1 g1;have c2:=Kd (h:=h1) e3 e4 (cT x1 t) (x1 _ _ g) lR;have x2:=Ext.app h1 [MO.lst ((bX R vs).map rwP)];have g2:(h1++[MO.lst ((bX R vs).map rwP)])[h1.length]?=a_ (.lst ((bX R vs).map rwP)):=aT;generalize h1++[MO.lst ((bX R vs).map rwP)]=h2 at c2 x2 g2;have s2:=vX g2 (by rw[aq];omega) (Ue (bX R vs));have x3:=Ext.app h2 [MO.lst (cW id ((bX R vs).map rwP))];have g3:(h2++[MO.lst (cW id ((bX R vs).map rwP))])[h2.length]?=a_ (.lst (cW id ((bX R vs).map rwP))):=aT;generalize h2++[MO.lst (cW id ((bX R vs).map rwP))]=h3 at s2 x3 g3;have n4:=rX (x3 _ _ (x2 _ _ g1)) g3 (EJ S) (EJ _);rw[Kb (p.map rwP) (Ue (bX R vs)),decide_eq_true rfl]at n4;refine⟨h3,(x1.trans x2).trans x3,?_⟩;rw[fV,cX,Cc,a1,Rs.bind_ok,s1,Rs.bind_ok,Cc,fF,c2,Rs.bind_ok,jU,Rs.bind_ok,Rs.bind_ok,s2,Rs.bind_ok,n4];rfl
def Qw{h:PH}{S:k_ 0}{E:FE}(gr:h[lr]?=a_ (.lst (S.map rwP)))(t6:bC h l6=a_ [])(lS:S.length<=1000)(nd:(S.map (·.1)).Nodup)(k:∀x7 h',(∀i o,i≠l6->h[i]?=a_ o->h'[i]?=a_ o)->bC h' l6=a_ (kvI 0 (S.map (·.1)))->E.nx [c_ lr,x1,x2,x3,x4,x5,c_ l6,x7,x8,x9,x10,x11] h'):
  (eN (vS (aA (mCB gH (aA (mV 0) aF)) aF)) (gN 7) gA [c_ lr,x1,x2,x3,x4,x5,c_ l6,x7,x8,x9,x10,x11] h).W E:=by
 have el:=kU gr;rw[aq]at el;have nl:=cL gr t6;refine Cd (j:=(S.length:Int)) (λq δ h'=>(∀i o,i≠l6->h[i]?=a_ o->h'[i]?=a_ o)/\bC h' l6=a_ (kvI 0 ((S.map (·.1)).take q))/\∃x7,δ=[c_ lr,x1,x2,x3,x4,x5,c_ l6,x7,x8,x9,x10,x11]) (by simp[el]) ⋯ ⟨λ_ _ _ e=>e,t6,_,rfl⟩ ?_ ?_
 ·rintro q δ h' hq ⟨f,t,x7,rfl⟩;have hql:q<S.length:=⋯;have eq:S[q]?=a_ S[q]:=c8 hql;have ea:atI (S.map rwP) (q:Int)=a_ (rwP S[q]):=jZ (by rw[ar,eq];rfl);have e0:vIx (rwP S[q]) (.int 0) h'=.ok (pl (S[q]).1) h':=by simp[rwP]
  have ep:(S.map (·.1))[q]?=a_ (S[q]).1:=by rw[ar,eq];rfl
  have htk:(S.map (·.1)).take (q+1)=(S.map (·.1)).take q++[(S[q]).1]:=by rw[ka,ep];rfl
  have lt:((S.map (·.1)).take q).length=q:=by rw[cf,aq];omega
  have hno:(S[q]).1∉(S.map (·.1)).take q:=λz=>by have nd':=nd;rw[<-b8 (q+1) (S.map (·.1)),htk]at nd';have n1:=(gc.mp nd').1;exact(gc.mp n1).2.2 _ z _ (cw.mpr rfl) rfl
  have pu:=Qv hno;rw[lt,<-htk]at pu;have p1:oC (.ref l6) (pl (S[q]).1) (.int (q:Int)) h'=a_ (h'.set l6 (.dD (kA (kvI 0 ((S.map (·.1)).take q)) (pl (S[q]).1) (.int (q:Int))))):=IE t (Bt _) (by rw[IW,lt];omega);rw[pu]at p1
  show Fl.W (gA [c_ lr,x1,x2,x3,x4,x5,c_ l6,d_ (q:Int),x8,x9,x10,x11] h') _
  unfold gA;rw[My];simp only[jT,eK,bZ];have em:aD vAt (aD vAt (mV 0) (mV 7)) (q_ 0) [c_ lr,x1,x2,x3,x4,x5,c_ l6,d_ (q:Int),x8,x9,x10,x11] h'=.ok (pl (S[q]).1) h':=by simp[fX (f _ _ nl gr),ea,e0]
  rw[em,bZ];exact⟨_,p1,λi o hi ho=>by rw[dr (iz hi)];exact f i o hi ho,xK t,_,rfl⟩
 ·rintro δ h' ⟨f,t,x7,rfl⟩;have e:((S.length:Int)).toNat=(S.map (·.1)).length:=by rw[aq];omega
  rw[e,o9]at t;exact k _ h' f t
theorem Nx:∀(k:Nat)(l:ue (ue St)),(kvI k l).all (λq=>q.1.isKt)=true
 |_,[]=>rfl
 |k,p::l=>by unfold kvI;rw[ie,Nx (k+1) l,Bool.and_true];exact xN p
def S7{h:PH}{l6 i:Nat}{l:ue (ue St)}{p:ue St}(t:bC h l6=a_ (kvI 0 l))(nd:l.Nodup)(hi:l[i]?=a_ p):vAt (.ref l6) (pl p) h=.ok (.int (i:Int)) h:=by
 have lk:=sY 0 l i nd hi;rw[j1]at lk;have:kX (pl p) (.ref l6) h=a_ (bQ (kvI 0 l) (pl p)):=by have k1:=xN p;simp only[kX,k1,if_true,t,Option.map_some]
 unfold vAt;rw[this,lk]
def IX{f:PV->PV->PH->Rs PV}{s l6:Nat}{δ:Ev}{h:PH}{l:ue (ue St)}{p:ue St}{v:PV}(e10:eK δ 10=a_ (pl p))(e6:eK δ 6=c_ l6)(es:eK δ s=a_ v)(t:bC h l6=a_ (kvI 0 l))(nd:l.Nodup)(hv:v=.non\/∃q,v=pl q/\∀i j:Nat,l[i]?=a_ q->l[j]?=a_ p->f (.int (i:Int)) (.int (j:Int)) h=.ok (.bl false) h):
  kO (aU (aD fN (mV 10) (mV 6))) (kO (aU (aD fN (mV s) (mV 6))) (aU (aD f (aD vAt (mV 6) (mV s)) (aD vAt (mV 6) (mV 10))))) δ h=.ok false h:=by
 have hh:∀q,fN (pl q) (.ref l6) h=.ok (.bl (bQ (kvI 0 l) (pl q)).isSome) h:=λq=>(uN (xs:=q.map stp)).trans (Gr t (Bt q));have m1:mV 10 δ h=.ok (pl p) h:=by rw[jT,e10]
 have m2:mV 6 δ h=.ok (.ref l6) h:=by rw[jT,e6]
 have m3:mV s δ h=.ok v h:=by rw[jT,es]
 have t1:∀b,tru (.bl b) h=.ok b h:=λb=>by simp
 by_cases c:p∈l
 ·let⟨j,hj⟩:=ic.mp c;have hp:=hh p;rw[sY 0 l j nd hj,sj]at hp;rw[rV,fV,cX,m1,Rs.bind_ok,m2,Rs.bind_ok,hp,Rs.bind_ok,t1,Rs.bind_ok,if_pos (by rfl),rV,fV,cX,m3,Rs.bind_ok,m2,Rs.bind_ok];rcases hv with rfl|⟨q,rfl,hf⟩
  ·rw[JW t (Nx 0 l),Rs.bind_ok,t1,Rs.bind_ok,if_neg nofun]
  ·by_cases c2:q∈l
   ·let⟨i,hi⟩:=ic.mp c2;rw[hh q,sY 0 l i nd hi,sj,Rs.bind_ok,t1,Rs.bind_ok,if_pos (by rfl),fV,cX,cX,m2,Rs.bind_ok,m3,Rs.bind_ok,S7 t nd hi,Rs.bind_ok,cX,m2,Rs.bind_ok,m1,Rs.bind_ok,S7 t nd hj,Rs.bind_ok,hf i j hi hj,Rs.bind_ok,t1]
   ·rw[hh q,sX 0 l c2,Option.isSome_none,Rs.bind_ok,t1,Rs.bind_ok,if_neg nofun]
 ·rw[rV,fV,cX,m1,Rs.bind_ok,m2,Rs.bind_ok,hh p,sX 0 l c,Option.isSome_none,Rs.bind_ok,t1,Rs.bind_ok,if_neg nofun]
theorem SI.ord{S:k_ 0}(I:SI S){i j:Nat}{p q:ue St}(hi:(S.map (·.1))[i]?=a_ p)(hj:(S.map (·.1))[j]?=a_ q)(b:bef p q=true):i<j:=by
 rw[ar]at hi hj;let⟨x,hx,rfl⟩:=br.mp hi;let⟨y,hy,rfl⟩:=br.mp hj;rcases Nat.lt_or_ge i j with c|c
 ·exact c
 ·have:=I.le c hy hx;rw[b]at this;cases this
def Ke{x0 x1 x2 x3 x4 x5 x7 x11:uf PV}{h:PH}{l6:Nat}{S:k_ 0}{a:As}{r:ue St×Nat}{E:FE}(I:SI S)(t:bC h l6=a_ (kvI 0 (S.map (·.1))))(ao:AO a)(hr:r∈cM a.d)(k:E.nx [x0,x1,x2,x3,x4,x5,c_ l6,x7,a_ (pl a.l),a_ ((a.r.map pl).getD .non),a_ (pl r.1),x11] h):
  (jH [x0,x1,x2,x3,x4,x5,c_ l6,x7,a_ (pl a.l),a_ ((a.r.map pl).getD .non),a_ (pl r.1),x11] h).W E:=by
 unfold jH;have g1:∀i j:Nat,(S.map (·.1))[i]?=a_ a.l->(S.map (·.1))[j]?=a_ r.1->i<j:=λi j hi hj=>by
  by_cases c:a.l=[]
  ·rw[c]at hi;rw[ar]at hi;let⟨x,hx,e⟩:=br.mp hi;let⟨y,ys,z,_⟩:=I.gd x (cq hx);rw[e]at z;cases z
  ·exact I.ord hi hj (ao.lo c r hr)
 rw[aP,fA,IX (s:=8) (f:=vGt) rfl rfl rfl t I.nd (.inr ⟨a.l,rfl,λi j hi hj=>by
  have:=g1 i j hi hj;have e:vGt (.int (i:Int)) (.int (j:Int)) h=.ok (.bl (decide ((i:Int)>j))) h:=by simp
  rw[e,decide_eq_false ⋯]⟩),bZ,if_neg nofun,iL]
 refine now ?_;rw[fA,IX (s:=9) (f:=jV) rfl rfl rfl t I.nd (by
  cases er:a.r with
  |none=>exact .inl rfl
  | some q=>exact .inr ⟨q,rfl,fun i j hi hj=>by
    have:=I.ord hj hi (ao.hi q er r hr);have e:jV (.int (i:Int)) (.int (j:Int)) h=.ok (.bl (decide ((i:Int)<j))) h:=by simp
    rw[e,decide_eq_false ⋯]⟩),bZ,if_neg nofun,iL]
 exact k
def Kf{h:PH}{S:k_ 0}{As':ue As}{E:FE}(I:SI S)(t:bC h l6=a_ (kvI 0 (S.map (·.1))))(g2:h[l2]?=a_ (.lst (As'.map asP)))(ao:∀x∈As',AO x)(k:∀δ h',E.nx δ h'):
  (eN (aZ (mV 2)) (gTp 3 (gCn (gN 5) (gCn (gN 8) (gCn (gN 9) gNl)))) jI [x0,x1,c_ l2,x3,x4,x5,c_ l6,x7,x8,x9,x10,x11] h).W E:=by
 refine nY (n:=l2) (xs:=As'.map asP) (h1:=h) (λq δ h'=>Ext h h'/\∃x5 x8 x9 x10 x11,δ=[x0,x1,c_ l2,x3,x4,x5,c_ l6,x7,x8,x9,x10,x11]) rfl g2 ⟨Ext.refl _,_,_,_,_,_,rfl⟩ (λq δ h' _ hh=>hh.1 _ _ g2) ?_ λδ h' _=>k δ h';rintro q x δ h' hx ⟨e,x5,x8,x9,x10,x11,rfl⟩;rw[ar]at hx;let⟨a,ha,rfl⟩:=br.mp hx;have ao:=ao a (cq ha);refine⟨[x0,x1,c_ l2,x3,x4,a_ (dP a.d),c_ l6,x7,a_ (pl a.l),a_ ((a.r.map pl).getD .non),x10,x11],by simp[asP],?_⟩;let⟨u,s,w,ea,hu,hw⟩:=ao.wr;have ed:dP a.d=wr a.d.hd a.d.n a.d.sn u s w:=by unfold dP;rw[ea];rfl
 have er:cM a.d=bP u s a.d.hd a.d.n w:=by unfold cM;rw[ea]
 have ew:gQ [dP a.d] h'=.ok (.ref h'.length) (h'++[.lst ((cM a.d).map rwP)]):=by rw[ed,er];have:=zP u s a.d.n a.d.hd w a.d.sn h' (λp h2=>p=.ref h'.length/\h2=h'++[.lst ((bP u s a.d.hd a.d.n w).map rwP)]) hu hw ⟨rfl,rfl⟩;let⟨p,h',e,rfl,rfl⟩:=rT this;exact e
 have ma:aA (mV 5) aF [x0,x1,c_ l2,x3,x4,a_ (dP a.d),c_ l6,x7,a_ (pl a.l),a_ ((a.r.map pl).getD .non),x10,x11] h'=.ok [dP a.d] h':=rfl;have y1:=e.trans (Ext.app h' [MO.lst ((cM a.d).map rwP)]);have g1:(h'++[MO.lst ((cM a.d).map rwP)])[h'.length]?=a_ (.lst ((cM a.d).map rwP)):=aT;unfold jI;generalize eh:h'++[MO.lst ((cM a.d).map rwP)]=h1 at*;refine nY (n:=h'.length) (xs:=(cM a.d).map rwP) (h1:=h1) (λq δ h2=>h2=h1/\∃x10 x11,δ=[x0,x1,c_ l2,x3,x4,a_ (dP a.d),c_ l6,x7,a_ (pl a.l),a_ ((a.r.map pl).getD .non),x10,x11]) (by rw[fW,ma,Rs.bind_ok,if_pos (by rfl),ew]) g1 ⟨rfl,_,_,rfl⟩ (λq δ h2 _ hh=>by rw[hh.1];exact g1) ?_ ?_
 ·rintro q x δ h2 hx ⟨rfl,x10,x11,rfl⟩;rw[ar]at hx;let⟨r,hr,rfl⟩:=br.mp hx;refine⟨[x0,x1,c_ l2,x3,x4,a_ (dP a.d),c_ l6,x7,a_ (pl a.l),a_ ((a.r.map pl).getD .non),a_ (pl r.1),a_ (.str ⟨#[r.2]⟩)],by simp[rwP],?_⟩;exact Ke I (cT y1 t) ao (cq hr) ⟨rfl,_,_,rfl⟩
 ·rintro δ h2 ⟨rfl,x10,x11,rfl⟩;exact⟨y1,_,_,_,_,_,rfl⟩
def Ug{h:PH}{S:k_ 0}{L:ue Dd}{As':ue As}(gr:h[lr]?=a_ (.lst (S.map rwP)))(gl:h[lg]?=a_ (.lst (L.map dP)))(g2:h[l2]?=a_ (.lst (As'.map asP)))(lo:LO L)(lL:L.length<=500)(lR:(bT L).length<=1000)(p:S.Perm (Rl L))(I:SI S)(ao:∀x∈As',AO x)(Q:PV->PH->Prop)(k:∀h',Q (.bl true) h'):(gB [.ref lr,.ref lg,.ref l2] h).W Q:=by
 refine kW ?_;unfold mS;rw[aP];simp;have y1:=Ext.app h [MO.dK []];have t1:bC (h++[MO.dK []]) h.length=a_ (kvF pl []):=by unfold bC;rw[aT];rfl
 generalize h.length=l3 at t1;generalize h++[MO.dK []]=h1 at y1 t1;refine now ?_;rw[aP];simp;have y2:=Ext.app h1 [MO.lst []];have g4:(h1++[MO.lst []])[h1.length]?=a_ (.lst (([]:k_ 0).map rwP)):=aT;generalize h1.length=l4 at g4;generalize h1++[MO.lst []]=hA at y2 g4;have t2:=cT y2 t1;have y02:=y1.trans y2;refine now ?_;rw[aP];have nl:=cL (y02 _ _ gl) t2;refine nY (n:=lg) (xs:=L.map dP) (h1:=hA) (GI L hA l3 lg lr l2) rfl (y02 _ _ gl) ⟨[],l4,_,_,_,rfl,λ_ _ _ e=>e,t2,λp=>by simp[jJ],cv _,g4,rfl,rfl⟩ (λq δ h' _ hh=>by let⟨vs,ls,x0,x2,x5,_,f,_⟩:=hh;exact f _ _ nl (y02 _ _ gl)) ?_ ?_
 ·intro q x δ h' hx hi;rw[ar]at hx;let⟨d,hd,rfl⟩:=br.mp hx;exact⟨_,rfl,Kc lo hd lL lR hi λ_ _ z=>z⟩
 ·rintro δ h' ⟨vs,ls,x0,x2,x5,rfl,f,t,mv,lv,g,rfl,rfl⟩;rw[aq,o9]at mv g;refine now ?_;have gr':=f _ _ (cL (y02 _ _ gr) t2) (y02 _ _ gr);have g2':=f _ _ (cL (y02 _ _ g2) t2) (y02 _ _ g2);have eo:bX (bT L) vs=Rl L:=by unfold Rl bX;refine k9 λr _=>?_;rw[decide_eq_decide];exact not_congr (mv r.1)
  let⟨h2,z2,et⟩:=Nw (δ:=[c_ lr,c_ lg,c_ l2,c_ l3,c_ ls,x5,b_,b_,b_,b_,b_,b_]) rfl rfl rfl gr' t g lR (by rw[eo];exact p);rw[aP,fA,et,bZ,if_neg nofun,iL];refine now ?_;rw[aP];simp;have y3:=Ext.app h2 [MO.dK []];have t6:bC (h2++[MO.dK []]) h2.length=a_ []:=by unfold bC;rw[aT]
  generalize h2.length=l6 at t6;generalize h2++[MO.dK []]=h3 at y3 t6;refine now ?_;rw[aP];have z3:=z2.trans y3;have lS:S.length<=1000:=by rw[p.length_eq];exact fv (qj _ _) lR
  refine Qw (z3 _ _ gr') t6 lS I.nd λx7 h4 f4 t4=>?_;refine now ?_;rw[aP];refine Kf I t4 (f4 _ _ (cL (z3 _ _ g2') t6) (z3 _ _ g2')) ao λδ h5=>?_;refine now ?_;simp;exact k _
def Ny{G:ue Dd}(nd:(G.map nm).Nodup)(hx:x∈G)(hy:y∈G)(e:nm x=nm y):x=y:=by
 let⟨i,hi,rfl⟩:=fj hx;let⟨j,hj,rfl⟩:=fj hy;have pw:=dq.mp (i9.mp nd);rcases Nat.lt_trichotomy i j with c|c|c
 ·exact(pw i j hi hj c e).elim
 ·subst c;rfl
 ·exact(pw j i hj hi c e.symm).elim
theorem len_sub:∀{K G:ue Dd},K.Nodup->(∀e∈K,e∈G)->K.length<=G.length
 |[],_,_,_=>cv _
 |x::K,G,nd,h=>by
  let⟨A,B,rfl⟩:=List.append_of_mem (h x aw);have:=len_sub (K:=K) (G:=A++B) (ip.mp nd).2 λe he=>by
   have h2:=h e (aj _ he);rw[ai,bx]at h2;rcases h2 with c|c|c
   ·exact b0 _ c
   ·exact((ip.mp nd).1 (c▸he)).elim
   ·exact ah _ c
  simp only[az,dm]at this⊢;omega
def Kg{d:Dd}(h:Ql d.ac):(cM d).length<=12:=by
 unfold cM;split
 ·rename_i u s w e;rw[e]at h;have:=congrArg List.length (lF u s d.n d.hd w);rw[aq,lC]at this;have:=h.2.2.1;omega
 ·exact cv _
theorem Bv:∀(K:ue Dd),(∀d∈K,Ql d.ac)->(bT K).length<=12*K.length
 |[],_=>cv _
 |d::K,h=>by
  have h1:=Kg (h d aw);have h2:=Bv K λe he=>h e (aj _ he);have e:bT (d::K)=cM d++bT K:=by simp[bT]
  rw[e,az,dm];omega
structure PI(hs:ue Str)(q:Nat)(G:ue Dd)(L:Nat->ue Dd):Prop where
 nd:(G.map nm).Nodup
 len:G.length<=q
 sub:∀i,i<3->∀d∈L i,d∈G
 lo:∀i,i<3->LO (L i)
 own:∀d∈G,∃i,i<3/\d∈L i
 num:∀i,i<3->∀z,hs[i]?=some z->∀d∈G,d.hd=z->d.n<=(cnt z (L i):Nat)
 rws:∀d∈G,∀r∈cM d,r.1.length<=12*q/\Gd r.1
section
variable{hs:ue Str}{q:Nat}{G:ue Dd}{L:Nat->ue Dd}
theorem PI.rkL(P:PI hs q G L)(hq:q<=40){K:ue Dd}(lo:LO K)(hK:∀e∈K,e∈G):Rk (Rl K)/\K.length<=40/\(bT K).length<=1000:=by have h1:=len_sub (EH lo.nd) hK;have h2:=Bv K λd hd=>(lo.ok d hd).1;have h3:=P.len;refine⟨lo.rk ⋯ λr hr=>?_,⋯,⋯⟩;let⟨e,he,hr⟩:=rj.mp hr;have:=(P.rws e (hK e he) r hr).1;omega
def GL{K:ue Dd}{r:ue St×Nat}(h:r∈Rl K):∃d∈K,r∈cM d:=rj.mp (jt.mp h).1
theorem PI.si(P:PI hs q G L)(hq:q<=40)(hi:i<3){S:k_ 0}(p:S.Perm (Rl (L i)))(s:SRt S):SI S:=by
 have h:=λr(hr:r∈S)=>GL (p.mem_iff.mp hr);refine⟨s,((P.rkL hq (P.lo i hi) (P.sub i hi)).1.perm p).nd,λr hr=>?_,λr hr=>?_⟩
 ·let⟨d,hd,hr⟩:=h r hr;exact(P.rws d (P.sub i hi d hd) r hr).2
 ·let⟨d,hd,hr⟩:=h r hr;have:=(P.rws d (P.sub i hi d hd) r hr).1;omega
def IY(z:Str)(A B:ue Dd):cnt z (A++B)=cnt z A+cnt z B:=by unfold cnt;rw[List.filter_append,az]
theorem PI.meet(P:PI hs q G L)(hi:i<3)(hj:j<3)(ij:i≠j){M:Nat->ue Dd}(eM:M=at2 (at2 L j (L j++cP (L i) (L j))) i (L i++cP (L j) (L i))):PI hs (q+1) G M/\(∀k,k<3->∀x∈L k,x∈M k)/\∀x,x∈L i\/x∈L j->x∈M i/\x∈M j:=by
 have co:∀i,i<3->∀j,j<3->∀x∈L i,∀y∈L j,nm x=nm y->x=y:=λi hi j hj x hx y hy e=>Ny P.nd (P.sub i hi x hx) (P.sub j hj y hy) e;have hM:∀k,M k=L k/\k≠i/\k≠j\/k=i/\M k=L i++cP (L j) (L i)\/k=j/\M k=L j++cP (L i) (L j):=λk=>by
  have e:M k=if k=i then L i++cP (L j) (L i) else if k=j then L j++cP (L i) (L j) else L k:=by rw[eM];rfl
  by_cases c1:k=i
  ·rw[if_pos c1]at e;exact .inr (.inl ⟨c1,e⟩)
  ·rw[if_neg c1]at e;by_cases c2:k=j
   ·rw[if_pos c2]at e;exact .inr (.inr ⟨c2,e⟩)
   ·rw[if_neg c2]at e;exact .inl ⟨e,c1,c2⟩
 have hA:∀k,∃X,M k=L k++X:=λk=>by
  rcases hM k with⟨e,_⟩|⟨rfl,e⟩|⟨rfl,e⟩
  ·exact⟨[],by rw[e,dz]⟩
  ·exact⟨_,e⟩
  ·exact⟨_,e⟩
 have hs':∀k,k<3->∀x∈L k,x∈M k:=λk _ x hx=>by let⟨X,e⟩:=hA k;rw[e];exact b0 _ hx
 refine⟨⟨P.nd,by have:=P.len;omega,λk hk d hd=>?_,λk hk=>?_,λd hd=>?_,λk hk z hz d hd e=>?_,λd hd r hr=>?_⟩,hs',λx hx=>?_⟩
 ·rcases hM k with⟨e,_⟩|⟨rfl,e⟩|⟨rfl,e⟩
  ·rw[e]at hd;exact P.sub k hk d hd
  ·rw[e]at hd;rcases ai.mp hd with hd|hd
   ·exact P.sub _ hk d hd
   ·exact P.sub _ hj d (dI.mp hd).1
  ·rw[e]at hd;rcases ai.mp hd with hd|hd
   ·exact P.sub _ hk d hd
   ·exact P.sub _ hi d (dI.mp hd).1
 ·rcases hM k with⟨e,_⟩|⟨rfl,e⟩|⟨rfl,e⟩
  ·rw[e];exact P.lo k hk
  ·rw[e];exact(P.lo _ hj).merge (P.lo _ hk) (co _ hj _ hk)
  ·rw[e];exact(P.lo _ hi).merge (P.lo _ hk) (co _ hi _ hk)
 ·let⟨k,hk,h⟩:=P.own d hd;exact⟨k,hk,hs' k hk d h⟩
 ·have:=P.num k hk z hz d hd e;let⟨X,eX⟩:=hA k;rw[eX,IY];omega
 ·have:=P.rws d hd r hr;exact⟨⋯,this.2⟩
 ·have hi':M i=L i++cP (L j) (L i):=by
   rcases hM i with⟨_,z,_⟩|⟨_,e⟩|⟨z,_⟩
   ·exact(z rfl).elim
   ·exact e
   ·exact(ij z).elim
  have hj':M j=L j++cP (L i) (L j):=by
   rcases hM j with⟨_,_,z⟩|⟨z,_⟩|⟨_,e⟩
   ·exact(z rfl).elim
   ·exact(ij z.symm).elim
   ·exact e
  rw[hi',hj',ai,ai,dI,dI];by_cases c1:x∈L i
  ·by_cases c2:x∈L j
   ·exact⟨.inl c1,.inl c2⟩
   ·exact⟨.inl c1,.inr ⟨c1,c2⟩⟩
  ·rcases hx with hx|hx
   ·exact(c1 hx).elim
   ·exact⟨.inr ⟨hx,c1⟩,.inl hx⟩
theorem PI.new(P:PI hs q G L)(hn:hs.Nodup)(hw:who<3)(ez:hs[who]?=a_ z){sn:PV}(ed:d=⟨z,(1:Int)+(cnt z (L who):Nat),sn,ac⟩)(ok:Ql ac)(hs':sn.pl 38=true)(hc:∀p∈pV d,p∈(bT (L who)).map (·.1))(hr:∀r∈cM d,r.1.length<=12*(q+1)/\Gd r.1):
  LO (L who++[d])/\PI hs (q+1) (G++[d]) (at2 L who (L who++[d])):=by
 have hz:d.hd=z:=by rw[ed]
 have hno:∀e∈G,nm e≠nm d:=λe he z'=>by have h1:e.hd=d.hd:=congrArg jv z';have h2:e.n=d.n:=congrArg Prod.snd z';have h3:=P.num who hw z ez e he (by rw[h1,hz]);rw[h2,ed]at h3;dsimp only at h3;omega
 have lo0:=P.lo who hw;have lo:LO (L who++[d]):=by
  refine⟨?_,λe he=>?_,λA e B eq p hp=>?_⟩
  ·rw[d9,gc];refine⟨lo0.nd,by simp,λa ha b hb e=>?_⟩;let⟨x,hx,rfl⟩:=bz.mp ha;have hb:b=nm d:=by simpa using hb
   exact hno x (P.sub who hw x hx) (e.trans hb)
  ·rcases ai.mp he with he|he
   ·exact lo0.ok e he
   ·rw[cw.mp he,ed];exact⟨ok,hs'⟩
  ·rcases List.append_eq_append_iff.mp eq with⟨A',eA,eB⟩|⟨C,eA,eB⟩
   ·cases A' with
    |nil=>rw[jd,iu]at eB;rw[dz]at eA;rw[eA];rw[<-eB.1]at hp;exact hc p hp
    |cons y A'=>rw[j2,iu]at eB;have:=congrArg List.length eB.2;simp at this
   ·cases C with
    |nil=>rw[jd,iu]at eB;rw[dz]at eA;rw[<-eA];rw[eB.1]at hp;exact hc p hp
    |cons y C=>rw[j2,iu]at eB;exact lo0.cl A e C (by rw[eA,eB.1]) p hp
 have hM:∀k,k≠who->at2 L who (L who++[d]) k=L k:=λk c=>if_neg c;have hw':at2 L who (L who++[d]) who=L who++[d]:=if_pos rfl;have hS:∀k,∀x∈L k,x∈at2 L who (L who++[d]) k:=λk x hx=>by
  by_cases c:k=who
  ·subst c;rw[hw'];exact b0 _ hx
  ·rw[hM k c];exact hx
 refine⟨lo,?_,?_,λk hk e he=>?_,λk hk=>?_,λe he=>?_,λk hk y hy e he ey=>?_,λe he r hr'=>?_⟩
 ·rw[d9,gc];refine⟨P.nd,by simp,λa ha b hb e=>?_⟩;let⟨x,hx,rfl⟩:=bz.mp ha;have hb:b=nm d:=by simpa using hb
  exact hno x hx (e.trans hb)
 ·have:=P.len;rw[az];simp;omega
 ·by_cases c:k=who
  ·subst c;rw[hw']at he;rcases ai.mp he with he|he
   ·exact b0 _ (P.sub k hk e he)
   ·exact ah _ he
  ·rw[hM k c]at he;exact b0 _ (P.sub k hk e he)
 ·by_cases c:k=who
  ·subst c;rw[hw'];exact lo
  ·rw[hM k c];exact P.lo k hk
 ·rcases ai.mp he with he|he
  ·let⟨k,hk,h⟩:=P.own e he;exact⟨k,hk,hS k e h⟩
  ·exact⟨who,hw,by rw[hw'];exact ah _ he⟩
 ·by_cases c:k=who
  ·subst c;rw[ez]at hy;cases hy
   rw[hw',IY];rcases ai.mp he with he|he
   ·have:=P.num k hk z ez e he ey;omega
   ·have h1:cnt z [d]=1:=by simp[cnt,hz]
    rw[cw.mp he,h1,ed];dsimp only;omega
  ·rw[hM k c];rcases ai.mp he with he|he
   ·exact P.num k hk y hy e he ey
   ·rw[cw.mp he,hz]at ey;subst ey;exact(c ((List.getElem?_inj (ab.mp hy).1 hn).mp (hy.trans ez.symm))).elim
 ·rcases ai.mp he with he|he
  ·have:=P.rws e he r hr';exact⟨⋯,this.2⟩
  ·rw[cw.mp he]at hr';exact hr r hr'
def Qx(l:ue St)(ro:uf (ue St)):(cQ l ro).1=l\/ro=a_ (cQ l ro).1:=by
 unfold cQ;split
 ·exact .inl rfl
 ·split
  ·exact .inr rfl
  ·exact .inl rfl
theorem PI.wr(P:PI hs q G L)(hq:q<=36)(hw:who<3){S:k_ 0}(p:S.Perm (Rl (L who)))(s:SRt S)(hi:i<=(S.map (·.1)).length){u:ue St}(eu:cQ (lft (S.map (·.1)) i) ((S.map (·.1))[i]?)=(u,sd))(z:Str)(n:Int)(sn:PV){w:Str}(h12:w.length<=12):
  u.length<=12*q/\(∀r∈bP u sd z n w,r.1.length<=12*(q+1)/\Gd r.1)/\AO ⟨⟨z,n,sn,.wr u sd w⟩,lft (S.map (·.1)) i,(S.map (·.1))[i]?⟩:=by
 have I:=P.si ⋯ hw p s;have hp:∀x∈S.map (·.1),x.length<=12*q:=λx hx=>by let⟨r,hr,rfl⟩:=bz.mp hx;let⟨d,hd,hr⟩:=GL (p.mem_iff.mp hr);exact(P.rws d (P.sub who hw d hd) r hr).1
 have hb:∀r,(S.map (·.1))[i]?=a_ r->bef (lft (S.map (·.1)) i) r=true:=λr hr=>by rw[ar]at hr;let⟨z,hz,rfl⟩:=br.mp hr;exact I.lb hz
 have hl:(lft (S.map (·.1)) i).length<=12*q:=by
  cases i with
  |zero=>exact cv _
  |succ j=>
   show((S.map (·.1)).getD j []).length<=_
   rw[av,c8 ⋯];exact hp _ (de _)
 have hu:u.length<=12*q:=by
  rcases Qx (lft (S.map (·.1)) i) ((S.map (·.1))[i]?) with c|c
  ·rw[eu]at c;rw[<-c]at hl;exact hl
  ·rw[eu]at c;exact hp u (cq c)
 have hN:∀x∈bP u sd z n w,x.1.length<=12*(q+1):=λx hx=>by let⟨e,_,h⟩:=lI hx;omega
 rw[aq]at hi;have J:=I.ins hi (hd:=z) (w:=w) (n:=n) eu λx hx=>by have:=hN x hx;omega
 refine⟨hu,λr hr=>⟨hN r hr,J.gd r (b0 _ (ah _ hr))⟩,⟨u,sd,w,rfl,⋯,h12⟩,λ_ r hr=>?_,λx hx r hr=>?_⟩
 ·let⟨e,ex,_⟩:=lI (u:=u) (s:=sd) (hd:=z) (n:=n) (w:=w) hr;have h2:=Nb hb z n e;rw[eu]at h2;rw[ex];exact h2
 ·let⟨e,ex,_⟩:=lI (u:=u) (s:=sd) (hd:=z) (n:=n) (w:=w) hr;have hx:(S.map (·.1))[i]?=a_ x:=hx;have h2:=Nc (hb x hx) z n e;rw[<-hx,eu]at h2;rw[ex];exact h2
end
structure HS(ldk lgs las lh lsl:Nat)(hs:ue Str)(cs:ue PV)(a d g:Nat->Nat)(L:Nat->ue Dd)(G:ue Dd)(A:ue As)(q:Nat)(h:PH):Prop where
 W:WO a d g L ldk lgs h
 P:PI hs q G L
 gh:h[lh]?=some (.lst (hs.map PV.str))
 gs:h[lsl]?=some (.lst cs)
 ga:h[las]?=some (.lst (A.map asP))
 ao:∀x∈A,AO x
 la:A.length<=q
 fh:lh≠lgs/\∀i,i<3->lh≠g i
 fs:lsl≠lgs/\∀i,i<3->lsl≠g i
 fa:las≠lgs/\∀i,i<3->las≠g i
 nh:lh≠las
 ns:lsl≠las
section
variable{ldk lgs las lh lsl:Nat}{hs:ue Str}{cs:ue PV}{a d g:Nat->Nat}{L:Nat->ue Dd}{G:ue Dd}{A:ue As}{q:Nat}{h:PH}
theorem HS.ext(H:HS ldk lgs las lh lsl hs cs a d g L G A q h)(x:Ext h h'):HS ldk lgs las lh lsl hs cs a d g L G A q h':=⟨H.W.ext x,H.P,x _ _ H.gh,x _ _ H.gs,x _ _ H.ga,H.ao,H.la,H.fh,H.fs,H.fa,H.nh,H.ns⟩
theorem HS.meet(H:HS ldk lgs las lh lsl hs cs a d g L G A q h)(hq:q<=39){i j:Nat}(hi:i<3)(hj:j<3)(ij:i≠j):
  ∃h' g' M,uT [.ref ldk,.ref lgs,.int (i:Int),.int (j:Int)] h=.ok (.bl true) h'/\HS ldk lgs las lh lsl hs cs a d g' M G A (q+1) h'/\(∀k,k<3->∀x∈L k,x∈M k)/\∀x,x∈L i\/x∈L j->x∈M i/\x∈M j:=by
 have P:=H.P;have w:=Qn H.W hi hj ij P.lo (λi hi j hj x hx y hy e=>Ny P.nd (P.sub i hi x hx) (P.sub j hj y hy) e) (λK lo hK=>by
  have:=P.rkL ⋯ lo λe he=>(hK e he).elim (P.sub i hi e) (P.sub j hj e);exact⟨this.1,⋯⟩) (λv h'=>v=.bl true/\∃g' M,HS ldk lgs las lh lsl hs cs a d g' M G A (q+1) h'/\(∀k,k<3->∀x∈L k,x∈M k)/\∀x,x∈L i\/x∈L j->x∈M i/\x∈M j) λh' gi gj bi bj W' f=>by
   let⟨P',s1,s2⟩:=P.meet hi hj ij rfl;have keep:∀{v:Nat}{xs:ue PV},h[v]?=a_ (.lst xs)->v≠lgs/\(∀i,i<3->v≠g i)->h'[v]?=a_ (.lst xs)/\v≠lgs/\∀k,k<3->v≠at2 (at2 g j gj) i gi k:=λ{v xs} e fx=>by
    have lt:=(ab.mp e).1;refine⟨f v _ (cL e (H.W.sg i hi).2) (cL e (H.W.sg j hj).2) fx.1 e,fx.1,λk hk=>?_⟩
    show v≠if k=i then gi else if k=j then gj else g k
    split
    ·omega
    ·split
     ·omega
     ·exact fx.2 k hk
   let⟨z1,z2⟩:=keep H.gh H.fh;let⟨z3,z4⟩:=keep H.gs H.fs;let⟨z5,z6⟩:=keep H.ga H.fa;exact⟨rfl,_,_,⟨W',P',z1,z3,z5,H.ao,by have:=H.la;omega,z2,z4,z6,H.nh,H.ns⟩,s1,s2⟩
 let⟨v,h',e,rfl,g',M,r⟩:=rT w;exact⟨h',g',M,e,r⟩
def isW:Ac->Bool
 |.wr _ _ _=>true
 |.ct _=>false
noncomputable def wT:Ms:=aL (mJ (cG 2 oJ (aA (aD vAt (mV 3) (mV 6)) (aA (mV 8) aF))))
   (aL (mJ (mMt isL (onL dE) (aD vAt (mV 4) (mV 6)) (aA (mV 8) aF)))
   (eG (aU (aD vEq (aD vAt (aD vAt (mV 8) (q_ 2)) (q_ 0)) (mC (.str "write"))))
    (mJ (mMt isL (onL dE) (mV 5) (aA (bW (aA (mV 8) (aA (mV 9) (aA (mV 10) aF)))) aF)))
    fJ))
def IZ{dd:Dd}{E:FE}(H:HS ldk lgs las lh lsl hs cs a d g L G A q h)(hq:q<=39)(hw:who<3)(lo:LO (L who++[dd]))(P':PI hs (q+1) G' (at2 L who (L who++[dd])))(eA:A'=A/\isW dd.ac=false\/∃x,A'=A++[x]/\isW dd.ac=true/\asP x=.tup [dP dd,p9,p10]/\AO x)(k:∀h',HS ldk lgs las lh lsl hs cs a d g (at2 L who (L who++[dd])) G' A' (q+1) h'->E.nx [x0,x1,x2,c_ ldk,c_ lgs,c_ las,d_ (who:Int),x7,a_ (dP dd),a_ p9,a_ p10,x11,x12,x13] h'):
  (wT [x0,x1,x2,c_ ldk,c_ lgs,c_ las,d_ (who:Int),x7,a_ (dP dd),a_ p9,a_ p10,x11,x12,x13] h).W E:=by
 have P:=H.P;have W:=H.W;have kR:=P.rkL ⋯ (P.lo who hw) (P.sub who hw);unfold wT;have ha:aA (aD vAt (mV 3) (mV 6)) (aA (mV 8) aF) [x0,x1,x2,c_ ldk,c_ lgs,c_ las,d_ (who:Int),x7,a_ (dP dd),a_ p9,a_ p10,x11,x12,x13] h=.ok [.ref (a who),dP dd] h:=by simp[(W.at hw).1]
 rw[aP,yR,fW,ha,Rs.bind_ok,if_pos (by rfl)];refine IR (W.sg who hw) lo kR.1 _ λh1 f1 td1=>?_;let⟨dk1,gk1,sw1,so1,lg1⟩:=W.hear hw f1 td1;refine now ?_;have e2:=at3 (x:=λi=>.ref (g i)) hw;have e4:vIx (.ref lgs) (.int (who:Int)) h1=.ok (.ref (g who)) h1:=by rw[fX gk1,e2];rfl
 have gw:=lg1 who hw;have ap:=gK (p:=dP dd) gw (by rw[aq];have:=kR.2.1;omega);have ea:(L who).map dP++[dP dd]=(L who++[dd]).map dP:=by rw[d9];rfl
 rw[ea]at ap;have em:mMt isL (onL dE) (aD vAt (mV 4) (mV 6)) (aA (mV 8) aF) [x0,x1,x2,c_ ldk,c_ lgs,c_ las,d_ (who:Int),x7,a_ (dP dd),a_ p9,a_ p10,x11,x12,x13] h1=.ok .non (h1.set (g who) (.lst ((L who++[dd]).map dP))):=by simp[e4,oX gw,ap]
 rw[aP,yR,em,bZ];have s2:(h1.set (g who) (.lst ((L who++[dd]).map dP)))[g who]?=a_ (.lst ((L who++[dd]).map dP)):=qH gw;have f2:∀n o,n≠g who->h1[n]?=a_ o->(h1.set (g who) (.lst ((L who++[dd]).map dP)))[n]?=a_ o:=λn o hn e=>by rw[dr (iz hn)];exact e
 generalize h1.set (g who) (.lst ((L who++[dd]).map dP))=h2 at s2 f2;have hw':at2 L who (L who++[dd]) who=L who++[dd]:=if_pos rfl;have W2:WO a d g (at2 L who (L who++[dd])) ldk lgs h2:=by
  refine⟨f2 _ _ (iz (W.ns who hw).2) dk1,f2 _ _ (iz (W.ns who hw).1) gk1,λi hi=>?_,λi hi=>?_,W.nd,W.ng,W.ns,W.nk⟩
  ·by_cases c:i=who
   ·subst c;rw[hw'];exact sw1.fr2 gw f2
   ·have e:at2 L who (L who++[dd]) i=L i:=if_neg c;rw[e];exact(so1 i hi c).fr2 gw f2
  ·by_cases c:i=who
   ·subst c;rw[hw'];exact s2
   ·have e:at2 L who (L who++[dd]) i=L i:=if_neg c;rw[e];exact f2 _ _ (W.ng i hi who hw c) (lg1 i hi)
 have keep:∀{v:Nat}{xs:ue PV},h[v]?=a_ (.lst xs)->v≠g who->h2[v]?=a_ (.lst xs):=λ{v xs} e ne=>f2 _ _ ne (f1 _ _ (cL e (W.sg who hw).2) e);have gh2:=keep H.gh (H.fh.2 who hw);have gs2:=keep H.gs (H.fs.2 who hw);have ga2:=keep H.ga (H.fa.2 who hw);refine now ?_;have et:aU (aD vEq (aD vAt (aD vAt (mV 8) (q_ 2)) (q_ 0)) (mC (.str "write"))) [x0,x1,x2,c_ ldk,c_ lgs,c_ las,d_ (who:Int),x7,a_ (dP dd),a_ p9,a_ p10,x11,x12,x13] h2=.ok (isW dd.ac) h2:=by
  have ne:¬ (gf "cut")=(gf "write"):=by decide +kernel
  let⟨hd,n,sn,ac⟩:=dd;cases ac with
  |wr u s w=>simp[dP,acP,isW]
  |ct ps=>simp[dP,acP,isW,ne]
 rw[fA,et,bZ];rcases eA with⟨rfl,c⟩|⟨x,rfl,c,ex,ax⟩
 ·rw[c,if_neg nofun,iL];exact k h2 ⟨W2,P',gh2,gs2,ga2,H.ao,by have:=H.la;omega,H.fh,H.fs,H.fa,H.nh,H.ns⟩
 ·rw[c,if_pos (by rfl),yR];have ap:=gK (p:=asP x) ga2 (by rw[aq];have:=H.la;omega);have ea:A.map asP++[asP x]=(A++[x]).map asP:=by rw[d9];rfl
  rw[ea]at ap;have em:mMt isL (onL dE) (mV 5) (aA (bW (aA (mV 8) (aA (mV 9) (aA (mV 10) aF)))) aF) [x0,x1,x2,c_ ldk,c_ lgs,c_ las,d_ (who:Int),x7,a_ (dP dd),a_ p9,a_ p10,x11,x12,x13] h2=.ok .non (h2.set las (.lst ((A++[x]).map asP))):=by rw[ex]at ap;simp[oX ga2,ap]
  rw[em,bZ];have s3:(h2.set las (.lst ((A++[x]).map asP)))[las]?=a_ (.lst ((A++[x]).map asP)):=qH ga2;have f3:∀n o,n≠las->h2[n]?=a_ o->(h2.set las (.lst ((A++[x]).map asP)))[n]?=a_ o:=λn o hn e=>by rw[dr (iz hn)];exact e
  generalize h2.set las (.lst ((A++[x]).map asP))=h3 at s3 f3;have dl:las≠ldk:=λe=>by
   have:=ga2;rw[e,W2.dk]at this;have h0:=congrArg (λl:ue PV=>l[0]?) (MO.lst.inj (cy this));cases A with
   |nil=>cases h0
   |cons y A=>cases h0
  refine k h3 ⟨⟨f3 _ _ (iz dl) W2.dk,f3 _ _ (iz H.fa.1) W2.gk,λi hi=>(W2.sg i hi).fr2 ga2 f3,λi hi=>f3 _ _ (iz (H.fa.2 i hi)) (W2.lg i hi),W2.nd,W2.ng,W2.ns,W2.nk⟩,P',f3 _ _ H.nh gh2,f3 _ _ H.ns gs2,s3,λy hy=>?_,by rw[az];simp;exact H.la,H.fh,H.fs,H.fa,H.nh,H.ns⟩;rcases ai.mp hy with hy|hy
  ·exact H.ao y hy
  ·rw[cw.mp hy];exact ax
end
theorem S8:∀S:k_ 0,S.filterMap (λr=>a_ (pl r.1))=(S.map (·.1)).map pl
 |[]=>rfl
 |r::S=>by
  show pl r.1::S.filterMap (λr=>a_ (pl r.1))=_
  rw[S8 S];rfl
section
variable{ldk lgs las lh lsl:Nat}{hs:ue Str}{cs:ue PV}{a d g:Nat->Nat}{L:Nat->ue Dd}{G:ue Dd}{A:ue As}{q:Nat}{h:PH}
def Qy{x0 x6 x7 x8 x9 x10 x11 x12 x13:uf PV}{c:Int}{E:FE}(H:HS ldk lgs las lh lsl hs cs a d g L G A q h)(hq:q<=35)(hn:hs.Nodup)(l3:hs.length=3)
  (k:∀g L G A x6 x7 x8 x9 x10 h',HS ldk lgs las lh lsl hs cs a d g L G A (q+1) h'->E.nx [x0,d_ c,c_ lh,c_ ldk,c_ lgs,c_ las,x6,x7,x8,x9,x10,x11,x12,x13] h'):
  (sP [x0,d_ c,c_ lh,c_ ldk,c_ lgs,c_ las,x6,x7,x8,x9,x10,x11,x12,x13] h).W E:=by
 unfold sP;obtain⟨who,ew,hw⟩:∃w:Nat,c%3=w/\w<3:=⟨(c%3).toNat,⋯,⋯⟩;have e6:aD fB (mV 1) (q_ 3) [x0,d_ c,c_ lh,c_ ldk,c_ lgs,c_ las,x6,x7,x8,x9,x10,x11,x12,x13] h=.ok (.int (who:Int)) h:=by simp(disch:=omega) [ew]
 rw[aP,eY,e6,bZ];simp only[di,dj];refine now ?_;have et:aU (aD vEq (aD fB (aD jO (mV 1) (q_ 3)) (q_ 4)) (q_ 3)) [x0,d_ c,c_ lh,c_ ldk,c_ lgs,c_ las,d_ (who:Int),x7,x8,x9,x10,x11,x12,x13] h=.ok (decide (c/3%4=3)) h:=by simp(disch:=omega)
 rw[fA,et,bZ];by_cases cm:c/3%4=3
 ·rw[if_pos (decide_eq_true cm)];obtain⟨j,ej,hj,ij⟩:∃j:Nat,((who:Int)+1+c/12%2)%3=j/\j<3/\who≠j:=⟨(((who:Int)+1+c/12%2)%3).toNat,⋯,⋯,⋯⟩;let⟨h',g',M,e,H',_⟩:=H.meet ⋯ hw hj ij;have ha:aA (mV 3) (aA (mV 4) (aA (mV 6) (aA (aD fB (aD bO (aD bO (mV 6) (q_ 1)) (aD fB (aD jO (mV 1) (q_ 12)) (q_ 2))) (q_ 3)) aF))) [x0,d_ c,c_ lh,c_ ldk,c_ lgs,c_ las,d_ (who:Int),x7,x8,x9,x10,x11,x12,x13] h=.ok [.ref ldk,.ref lgs,.int (who:Int),.int (j:Int)] h:=by simp(disch:=omega) [ej]
  rw[fA,Ee,fV,fW,ha,Rs.bind_ok,if_pos (by rfl),e,Rs.bind_ok,G9,Rs.bind_ok,bZ,if_neg nofun,iL];exact k _ _ _ _ _ _ _ _ _ _ H'
 ·rw[if_neg (l_ cm)];have P:=H.P;have kR:=P.rkL ⋯ (P.lo who hw) (P.sub who hw);let⟨S,p,s⟩:=sR (H.W.sg who hw) kR.1;let⟨h1,l,y1,b1,g1,e1⟩:=mT (δ:=[x0,d_ c,c_ lh,c_ ldk,c_ lgs,c_ las,d_ (who:Int),x7,x8,x9,x10,x11,x12,x13]) (h:=h) (mo:=aD vAt (mV 3) (mV 6)) (tb:=zI) (H.W.sg who hw) kR.1 p s rfl (by simp[(H.W.at hw).1]);have lS:S.length<=1000:=(kR.1.perm p).len;have hc:=jE (js:=[b_,b_]) (tg:=gTp 2 (gCn (gN 0) (gCn (gN 1) gNl))) (tst:=uF) (elt:=mV 0) (ys:=S) (emb:=rwP) (λr=>a_ (pl r.1)) e1 g1 ⋯ (λr hr=>⟨[a_ (pl r.1),a_ (.str ⟨#[r.2]⟩)],by simp[rwP,mK],λh' _=>⟨rfl,rfl⟩⟩);rw[S8]at hc;rw[aP,eY,hc,bZ];simp only[di,dj];have y2:=y1.trans (Ext.app h1 [MO.lst ((S.map (·.1)).map pl)]);have g2:(h1++[MO.lst ((S.map (·.1)).map pl)])[h1.length]?=a_ (.lst ((S.map (·.1)).map pl)):=aT;generalize h1.length=lp at g2;generalize h1++[MO.lst ((S.map (·.1)).map pl)]=h2 at y2 g2;have H2:=H.ext y2;have I:=P.si ⋯ hw p s;refine now ?_;obtain⟨z,ez⟩:∃z,hs[who]?=a_ z:=⟨_,c8 ⋯⟩;have ha:aA (mV 2) (aA (mV 6) (aA (aD vAt (mV 4) (mV 6)) (aA (mV 7) (aA (aD jO (mV 1) (q_ 12)) aF)))) [x0,d_ c,c_ lh,c_ ldk,c_ lgs,c_ las,d_ (who:Int),c_ lp,x8,x9,x10,x11,x12,x13] h2=.ok [.ref lh,.int (who:Int),.ref (g who),.ref lp,.int (c/12)] h2:=by simp(disch:=omega) [(H2.W.at hw).2]
  rw[aP,LS,fW,ha,Rs.bind_ok,if_pos (by rfl)];refine Nu (L:=L who) (Ps:=S.map (·.1)) H2.gh l3 ez (H2.W.lg who hw) ⋯ g2 (by rw[aq];omega) (λx hx=>?_) (λi r hr=>?_) _ (λsn ps h3 x3 hsn hps lps=>?_) (λsn i w h3 x3 hsn hi w1 w12 asc=>?_)
  ·let⟨r,hr,rfl⟩:=bz.mp hx;exact I.hl r hr
  ·rw[ar]at hr;let⟨y,hy,rfl⟩:=br.mp hr;exact I.lb hy
  ·let⟨lo,P'⟩:=P.new hn hw ez (sn:=sn) (ac:=.ct ps) rfl lps hsn (λx hx=>by let⟨r,hr,rfl⟩:=bz.mp (hps x hx);let⟨e,he,hr⟩:=GL (p.mem_iff.mp hr);exact lJ.mpr ⟨e,he,bz.mpr ⟨r,hr,rfl⟩⟩) (λr hr=>by cases hr);refine⟨[x0,d_ c,c_ lh,c_ ldk,c_ lgs,c_ las,d_ (who:Int),c_ lp,a_ (dP ⟨z,(1:Int)+(cnt z (L who):Nat),sn,.ct ps⟩),a_ (.tup []),a_ .non,x11,x12,x13],by simp,?_⟩;refine now ?_;exact IZ (H2.ext x3) ⋯ hw lo P' (.inl ⟨rfl,rfl⟩) λh' H'=>k _ _ _ _ _ _ _ _ _ _ H'
  ·generalize eu:cQ (lft (S.map (·.1)) i) ((S.map (·.1))[i]?)=us;let⟨u,sd⟩:=us;let⟨hu,hrw,ao⟩:=P.wr ⋯ hw p s hi eu z ((1:Int)+(cnt z (L who):Nat)) sn w12;let⟨lo,P'⟩:=P.new hn hw ez (sn:=sn) (ac:=.wr u sd w) rfl ⟨⋯,w1,w12,asc⟩ hsn (λx hx=>by cases hx) hrw;refine⟨[x0,d_ c,c_ lh,c_ ldk,c_ lgs,c_ las,d_ (who:Int),c_ lp,a_ (dP ⟨z,(1:Int)+(cnt z (L who):Nat),sn,.wr u sd w⟩),a_ (pl (lft (S.map (·.1)) i)),a_ ((((S.map (·.1))[i]?).map pl).getD .non),x11,x12,x13],by simp,?_⟩;refine now ?_;exact IZ (H2.ext x3) ⋯ hw lo P' (.inr ⟨_,rfl,rfl,rfl,ao⟩) λh' H'=>k _ _ _ _ _ _ _ _ _ _ H'
def FI(G:ue Dd)(L:Nat->ue Dd):Nat->Prop
 |0=>True
 |1=>∀x∈G,x∈L 0\/x∈L 2
 |2=>∀x∈G,x∈L 0/\x∈L 2
 |_=>∀x∈G,x∈L 0/\x∈L 1/\x∈L 2
def zQ:ue (Nat×Nat):=[(0,1),(0,2),(1,0)]
def J1(h:zQ[q]?=a_ x):q=0/\x=(0,1)\/q=1/\x=(0,2)\/q=2/\x=(1,0):=by
 match q,h with
 |0,h=>exact .inl ⟨rfl,(cy h).symm⟩
 |1,h=>exact .inr (.inl ⟨rfl,(cy h).symm⟩)
 |2,h=>exact .inr (.inr ⟨rfl,(cy h).symm⟩)
 |n+3,h=>cases h
theorem FI.next{M:Nat->ue Dd}(h:zQ[q]?=a_ x)(f:FI G L q)(own:∀x∈G,∃i,i<3/\x∈L i)(s1:∀k,k<3->∀x∈L k,x∈M k)(s2:∀y,y∈L x.1\/y∈L x.2->y∈M x.1/\y∈M x.2):FI G M (q+1):=by
 rcases J1 h with⟨rfl,rfl⟩|⟨rfl,rfl⟩|⟨rfl,rfl⟩
 ·intro y hy;let⟨i,hi,h⟩:=own y hy;have:i=0\/i=1\/i=2:=⋯;rcases this with rfl|rfl|rfl
  ·exact .inl (s1 0 hi y h)
  ·exact .inl (s2 y (.inr h)).1
  ·exact .inr (s1 2 hi y h)
 ·intro y hy;exact s2 y (f y hy)
 ·intro y hy;have h:=f y hy;have z:=s2 y (.inr h.1);exact⟨z.2,z.1,s1 2 ⋯ y h.2⟩
def Qz{x0 x1 x2 x6 x7 x8 x9 x10 x11 x12 x13:uf PV}{E:FE}(H:HS ldk lgs las lh lsl hs cs a d g L G A q h)(hq:q<=36)
  (k:∀g L x11 x12 h',HS ldk lgs las lh h.length hs (zQ.map λx=>.tup [.int (x.1:Int),.int (x.2:Int)]) a d g L G A (q+3) h'->FI G L 3->E.nx [x0,x1,x2,c_ ldk,c_ lgs,c_ las,x6,x7,x8,x9,x10,x11,x12,x13] h'):
  (eN (aZ (fU (aA (bW (aA (q_ 0) (aA (q_ 1) aF))) (aA (bW (aA (q_ 0) (aA (q_ 2) aF))) (aA (bW (aA (q_ 1) (aA (q_ 0) aF))) aF))))) (gTp 2 (gCn (gN 11) (gCn (gN 12) gNl))) xJ [x0,x1,x2,c_ ldk,c_ lgs,c_ las,x6,x7,x8,x9,x10,x11,x12,x13] h).W E:=by
 have y:=Ext.app h [MO.lst (zQ.map λx=>.tup [.int (x.1:Int),.int (x.2:Int)])];have g0:(h++[MO.lst (zQ.map λx=>.tup [.int (x.1:Int),.int (x.2:Int)])])[h.length]?=a_ (.lst (zQ.map λx=>.tup [.int (x.1:Int),.int (x.2:Int)])):=aT;have W:=H.W;have lt:∀{v:Nat}{o:MO},h[v]?=a_ o->h.length≠v:=λ{v o} e=>by have:=(ab.mp e).1;omega
 have H0:HS ldk lgs las lh h.length hs (zQ.map λx=>.tup [.int (x.1:Int),.int (x.2:Int)]) a d g L G A (q+0) (h++[MO.lst (zQ.map λx=>.tup [.int (x.1:Int),.int (x.2:Int)])]):=⟨W.ext y,H.P,y _ _ H.gh,g0,y _ _ H.ga,H.ao,H.la,H.fh,⟨lt W.gk,λi hi=>lt (W.lg i hi)⟩,H.fa,H.nh,lt H.ga⟩;refine nY (n:=h.length) (xs:=zQ.map λx=>.tup [.int (x.1:Int),.int (x.2:Int)]) (λp δ h'=>∃g L,HS ldk lgs las lh h.length hs (zQ.map λx=>.tup [.int (x.1:Int),.int (x.2:Int)]) a d g L G A (q+p) h'/\FI G L p/\∃x11 x12,δ=[x0,x1,x2,c_ ldk,c_ lgs,c_ las,x6,x7,x8,x9,x10,x11,x12,x13]) (by simp[zQ]) g0 ⟨g,L,H0,trivial,_,_,rfl⟩ (λp δ h' _ hh=>by let⟨g,L,H,_⟩:=hh;exact H.gs) ?_ ?_
 ·rintro p v δ h' hv ⟨g,L,H,f,x11,x12,rfl⟩;rw[ar]at hv;let⟨x,hx,rfl⟩:=br.mp hv;refine⟨[x0,x1,x2,c_ ldk,c_ lgs,c_ las,x6,x7,x8,x9,x10,d_ (x.1:Int),d_ (x.2:Int),x13],by simp,?_⟩;have hb:p<=2/\x.1<3/\x.2<3/\x.1≠x.2:=by rcases J1 hx with⟨rfl,rfl⟩|⟨rfl,rfl⟩|⟨rfl,rfl⟩ <;> decide
  let⟨h2,g',M,e,H',s1,s2⟩:=H.meet ⋯ hb.2.1 hb.2.2.1 hb.2.2.2;unfold xJ;have ha:aA (mV 3) (aA (mV 4) (aA (mV 11) (aA (mV 12) aF))) [x0,x1,x2,c_ ldk,c_ lgs,c_ las,x6,x7,x8,x9,x10,d_ (x.1:Int),d_ (x.2:Int),x13] h'=.ok [.ref ldk,.ref lgs,.int (x.1:Int),.int (x.2:Int)] h':=rfl;rw[fA,Ee,fV,fW,ha,Rs.bind_ok,if_pos (by rfl),e,Rs.bind_ok,G9,Rs.bind_ok,bZ,if_neg nofun,iL];exact⟨g',M,H',f.next hx H.P.own s1 s2,_,_,rfl⟩
 ·rintro δ h' ⟨g,L,H,f,x11,x12,rfl⟩;exact k g L x11 x12 h' H f
end
def J2{h:PH}{S:k_ 0}{tb:Str->uf Fn}(ej:eK δ j=c_ l)(g:h[l]?=a_ (.lst (S.map rwP)))(em:mo δ h=.ok (.ref a) h)(t:gC h a d R)(k:Rk R)(p:S.Perm R)(s:SRt S)(htb:tb "Signs" = a_ aQ):∃h',Ext h h'/\aU (aD vNe (dX "rows" 0 tb mo aF) (mV j)) δ h=.ok false h':=by let⟨h1,l1,x1,_,g1,e1⟩:=mT (δ:=δ) (h:=h) (mo:=mo) t k p s htb em;refine⟨h1,x1,?_⟩;have n:=rX g1 (x1 _ _ g) (qQ S) (qQ S);rw[fV,cX,e1,Rs.bind_ok,jT,ej];dsimp only;rw[Rs.bind_ok,n];simp
def CH(δ:Ev)(h:PH):nF "Signs" 0 aM aF δ h=.ok (.ref h.length) (h++[.ins "Signs" [("kept",.ref (h.length+1))],.dK []]):=by
 have ei:=Qc (n:=h.length) (h:=h++[MO.ins "Signs" []]) aT;rw[Mw,jU,Rs.bind_ok,if_pos (by rfl),ei,Rs.bind_ok];have e:((h++[MO.ins "Signs" []])++[MO.dK []]).set h.length (.ins "Signs" [("kept",.ref (h++[MO.ins "Signs" []]).length)])=h++[.ins "Signs" [("kept",.ref (h.length+1))],.dK []]:=by rw[ak,List.set_append_right _ _ (bq _),r8];simp
 rw[e]
noncomputable def lE:Ms:=aL (bD 13 (dX "rows" 0 sM (aD vAt (mV 3) (q_ 2)) aF))
 (aL (eG (JH (aU (aD vNe (dX "rows" 0 sO (aD vAt (mV 3) (q_ 1)) aF) (mV 13))) (aU (aD vNe (dX "rows" 0 sN (aD vAt (mV 3) (q_ 0)) aF) (mV 13))))
  (dH (mC (.bl false)))
  fJ)
 (dH (cG 3 gB (aA (mV 13) (aA (aD vAt (mV 4) (q_ 2)) (aA (mV 5) aF))))))
def Wu{a d g:Nat->Nat}{L:Nat->ue Dd}{E:FE}(H:HS ldk lgs las lh lsl hs cs a d g L G A q h)(hq:q<=40)(f:FI G L 3)(k:∀h',E.rt (.bl true) h'):(lE [x0,x1,x2,c_ ldk,c_ lgs,c_ las,x6,x7,x8,x9,x10,x11,x12,x13] h).W E:=by
 have P:=H.P;have W:=H.W;have f':∀i,i<3->∀x∈G,x∈L i:=λi hi x hx=>by
  have h:=f x hx;have:i=0\/i=1\/i=2:=⋯;rcases this with rfl|rfl|rfl
  ·exact h.1
  ·exact h.2.1
  ·exact h.2.2
 have pm:∀i,i<3->(L 2).Perm (L i):=λi hi=>by rw[qq (EH (P.lo 2 ⋯).nd) (EH (P.lo i hi).nd)];exact λx=>⟨λh=>f' i hi x (P.sub 2 ⋯ x h),λh=>f' 2 ⋯ x (P.sub i hi x h)⟩
 have kR:=λi(hi:i<3)=>P.rkL hq (P.lo i hi) (P.sub i hi);let⟨S,p,s⟩:=sR (W.sg 2 ⋯) (kR 2 ⋯).1;unfold lE;have a2:∀{h':PH},Ext h h'->vIx (.ref ldk) (.int 2) h'=.ok (.ref (a 2)) h'/\vIx (.ref ldk) (.int 1) h'=.ok (.ref (a 1)) h'/\vIx (.ref ldk) (.int 0) h'=.ok (.ref (a 0)) h'/\vIx (.ref lgs) (.int 2) h'=.ok (.ref (g 2)) h':=λ{h'} x=>⟨((W.ext x).at (i:=2) ⋯).1,((W.ext x).at (i:=1) ⋯).1,((W.ext x).at (i:=0) ⋯).1,((W.ext x).at (i:=2) ⋯).2⟩;let⟨h1,l,y1,_,g1,e1⟩:=mT (δ:=[x0,x1,x2,c_ ldk,c_ lgs,c_ las,x6,x7,x8,x9,x10,x11,x12,x13]) (h:=h) (mo:=aD vAt (mV 3) (q_ 2)) (tb:=sM) (W.sg 2 ⋯) (kR 2 ⋯).1 p s rfl (by simp[a2 (Ext.refl h)]);rw[aP,eY,e1,bZ];simp only[di,dj];refine now ?_;let⟨h2,y2,e2⟩:=J2 (δ:=[x0,x1,x2,c_ ldk,c_ lgs,c_ las,x6,x7,x8,x9,x10,x11,x12,c_ l]) (h:=h1) (j:=13) (mo:=aD vAt (mV 3) (q_ 1)) (tb:=sO) rfl g1 (by simp[a2 y1]) ((W.sg 1 ⋯).ext y1) (kR 1 ⋯).1 (p.trans (CB (pm 1 ⋯))) s rfl;have y12:=y1.trans y2;let⟨h3,y3,e3⟩:=J2 (δ:=[x0,x1,x2,c_ ldk,c_ lgs,c_ las,x6,x7,x8,x9,x10,x11,x12,c_ l]) (h:=h2) (j:=13) (mo:=aD vAt (mV 3) (q_ 0)) (tb:=sN) rfl (y2 _ _ g1) (by simp[a2 y12]) ((W.sg 0 ⋯).ext y12) (kR 0 ⋯).1 (p.trans (CB (pm 0 ⋯))) s rfl;rw[aP,fA,orF e2 e3,bZ,if_neg nofun,iL];refine now ?_;have y13:=y12.trans y3;have ha:aA (mV 13) (aA (aD vAt (mV 4) (q_ 2)) (aA (mV 5) aF)) [x0,x1,x2,c_ ldk,c_ lgs,c_ las,x6,x7,x8,x9,x10,x11,x12,c_ l] h3=.ok [.ref l,.ref (g 2),.ref las] h3:=by simp[a2 y13]
 rw[LU,fW,ha,Rs.bind_ok,if_pos (by rfl)];exact Ug ((y2.trans y3) _ _ g1) (y13 _ _ (W.lg 2 ⋯)) (y13 _ _ H.ga) (P.lo 2 ⋯) (by have:=(kR 2 ⋯).2.1;omega) (kR 2 ⋯).2.2 p (P.si hq ⋯ p s) H.ao _ k
def kE{h l:PH}(e:h.length=n)(i:Nat):(h++l)[n+i]?=l[i]?:=by rw[au ⋯,e,ig]
def stH(n:Nat):PH:=[MO.ins "Signs" [("kept",.ref (n+1))],.dK [],.ins "Signs" [("kept",.ref (n+3))],.dK [],.ins "Signs" [("kept",.ref (n+5))],.dK [],.lst [.ref n,.ref (n+2),.ref (n+4)],.lst [],.lst [],.lst [],.lst [.ref (n+7),.ref (n+8),.ref (n+9)],.lst []]
def Nz{h:PH}(e:h.length=n):WO (λi=>n+2*i) (λi=>n+(2*i+1)) (λi=>n+(7+i)) (λ_=>[]) (n+6) (n+10) (h++stH n):=by
 have c3:∀i,i<3->i=0\/i=1\/i=2:=λi hi=>by omega
 refine⟨kE e 6,kE e 10,λi hi=>?_,λi hi=>?_,λi hi j hj ne z=>ne ⋯,λi hi j hj ne z=>ne ⋯,λi hi=>⟨⋯,⋯⟩,⋯⟩
 ·have t:∀k,(stH n)[k]?=a_ (.dK [])->bC (h++stH n) (n+k)=a_ (kvR (Rl [])):=λk hk=>by unfold bC;rw[kE e k,hk];rfl
  rcases c3 i hi with rfl|rfl|rfl
  ·exact⟨kE e 0,t 1 rfl⟩
  ·exact⟨kE e 2,t 3 rfl⟩
  ·exact⟨kE e 4,t 5 rfl⟩
 ·rcases c3 i hi with rfl|rfl|rfl
  ·exact kE e 7
  ·exact kE e 8
  ·exact kE e 9
def QA{α:Type}(xs:ue α):(iF xs (a_ 1) (a_ 37)).length<=36:=by
 unfold iF;rw[sC nofun,sC nofun,cf];refine fv (Nat.min_le_left _ _) ?_;generalize xs.length=n
 show min 37 n-min 1 n<=36
 cases n with
 |zero=>exact cv _
 |succ n=>rw[Nat.min_eq_left (Nat.le_add_left 1 n)];exact Nat.sub_le_sub_right (Nat.min_le_left 37 _) 1
def Cb{ns:ue Int}{hs:ue Str}{h:PH}{E:FE}(gh:h[lh]?=a_ (.lst (hs.map PV.str)))(e:h.length=n)(hn:hs.Nodup)(l3:hs.length=3)(k:∀lsl cs a d g L G A x1 x6 x7 x8 x9 x10 q h',q<=36->HS (n+6) (n+10) (n+11) lh lsl hs cs a d g L G A q h'->E.nx [a_ (.fl (ns.map PV.int)),x1,c_ lh,c_ (n+6),c_ (n+10),c_ (n+11),x6,x7,x8,x9,x10,b_,b_,b_] h'):
  (eN (aZ (mSl (mV 0) (mP (q_ 1)) (mP (q_ 37)))) (gN 1) sP [a_ (.fl (ns.map PV.int)),d_ c,c_ lh,c_ (n+6),c_ (n+10),c_ (n+11),b_,b_,b_,b_,b_,b_,b_,b_] (h++stH n)).W E:=by
 have W0:=Nz e;have lt:=(ab.mp gh).1;have gh0:=Ext.app h (stH n) _ _ gh;have ga0:(h++stH n)[n+11]?=a_ (.lst (([]:ue As).map asP)):=kE e 11;have ll:(h++stH n).length=n+12:=by rw[az,e];rfl
 generalize h++stH n=hZ at W0 gh0 ga0 ll;have e8:mSl (mV 0) (mP (q_ 1)) (mP (q_ 37)) [a_ (.fl (ns.map PV.int)),d_ c,c_ lh,c_ (n+6),c_ (n+10),c_ (n+11),b_,b_,b_,b_,b_,b_,b_,b_] hZ=.ok (.ref hZ.length) (hZ++[.lst ((iF ns (a_ 1) (a_ 37)).map PV.int)]):=by simp[Py]
 have g8:(hZ++[MO.lst ((iF ns (a_ 1) (a_ 37)).map PV.int)])[hZ.length]?=a_ (.lst ((iF ns (a_ 1) (a_ 37)).map PV.int)):=aT;have x8:=Ext.app hZ [MO.lst ((iF ns (a_ 1) (a_ 37)).map PV.int)];generalize hZ++[MO.lst ((iF ns (a_ 1) (a_ 37)).map PV.int)]=hG at e8 g8 x8;have lcs:=QA ns;generalize iF ns (a_ 1) (a_ 37)=cs at e8 g8 lcs;rw[ll]at e8 g8;have P0:PI hs 0 [] λ_=>[]:=⟨List.nodup_nil,cv _,λ_ _ d hd=>(by cases hd),λ_ _=>⟨List.nodup_nil,λd hd=>(by cases hd),λA d B e=>by cases A <;> cases e⟩,λd hd=>(by cases hd),λ_ _ _ _ d hd=>(by cases hd),λd hd=>(by cases hd)⟩;have H0:HS (n+6) (n+10) (n+11) lh (n+12) hs (cs.map PV.int) (λi=>n+2*i) (λi=>n+(2*i+1)) (λi=>n+(7+i)) (λ_=>[]) [] [] 0 hG:=⟨W0.ext x8,P0,x8 _ _ gh0,g8,x8 _ _ ga0,λx hx=>(by cases hx),cv _,⟨⋯,λi hi=>by omega⟩,⟨⋯,λi hi=>by omega⟩,⟨⋯,λi hi=>by omega⟩,⋯,⋯⟩
 refine nY (n:=n+12) (xs:=cs.map PV.int) (λq δ h'=>∃g L G A x1 x6 x7 x8 x9 x10,HS (n+6) (n+10) (n+11) lh (n+12) hs (cs.map PV.int) (λi=>n+2*i) (λi=>n+(2*i+1)) g L G A q h'/\δ=[a_ (.fl (ns.map PV.int)),x1,c_ lh,c_ (n+6),c_ (n+10),c_ (n+11),x6,x7,x8,x9,x10,b_,b_,b_]) e8 g8 ⟨_,_,_,_,_,_,_,_,_,_,H0,rfl⟩ (λq δ h' _ hh=>by let⟨g,L,G,A,x1,x6,x7,x8,x9,x10,H,_⟩:=hh;exact H.gs) ?_ ?_
 ·rintro q x δ h' hx ⟨g,L,G,A,x1,x6,x7,x8,x9,x10,H,rfl⟩;have hq:=(ab.mp hx).1;rw[aq]at hq;rw[ar]at hx;let⟨c,hc,rfl⟩:=br.mp hx;refine⟨[a_ (.fl (ns.map PV.int)),d_ c,c_ lh,c_ (n+6),c_ (n+10),c_ (n+11),x6,x7,x8,x9,x10,b_,b_,b_],rfl,?_⟩;exact Qy H ⋯ hn l3 λg L G A x6 x7 x8 x9 x10 h' H'=>⟨g,L,G,A,_,x6,x7,x8,x9,x10,H',rfl⟩
 ·rintro δ h' ⟨g,L,G,A,x1,x6,x7,x8,x9,x10,H,rfl⟩;rw[aq]at H;exact k _ _ _ _ _ _ _ _ _ _ _ _ _ _ _ _ lcs H
noncomputable def lR:Ms:=aL (bD 2 (cG 1 mR (aA (mV 1) aF)))
 (aL (bD 3 (fU (aA (nF "Signs" 0 aM aF) (aA (nF "Signs" 0 aM aF) (aA (nF "Signs" 0 aM aF) aF)))))
 (aL (bD 4 (fU (aA (fU aF) (aA (fU aF) (aA (fU aF) aF)))))
 (aL (bD 5 (fU aF))
 (aL (eN (aZ (mSl (mV 0) (mP (q_ 1)) (mP (q_ 37)))) (gN 1) sP)
 (aL (eN (aZ (fU (aA (bW (aA (q_ 0) (aA (q_ 1) aF))) (aA (bW (aA (q_ 0) (aA (q_ 2) aF))) (aA (bW (aA (q_ 1) (aA (q_ 0) aF))) aF))))) (gTp 2 (gCn (gN 11) (gCn (gN 12) gNl))) xJ)
 lE)))))
def S9{ns:ue Int}{E:FE}(k:∀h',E.rt (.bl true) h'):(lR [a_ (.fl (ns.map PV.int)),d_ c,b_,b_,b_,b_,b_,b_,b_,b_,b_,b_,b_,b_] []).W E:=by
 unfold lR;have m1:cG 1 mR (aA (mV 1) aF) [a_ (.fl (ns.map PV.int)),d_ c,b_,b_,b_,b_,b_,b_,b_,b_,b_,b_,b_,b_] []=mR [.int c] []:=rfl;rw[aP,eY,m1];refine Nq c [] _ λhs lh h1 _ _ l3 hn gh=>?_;simp only[di,dj];refine now ?_;generalize en:h1.length=n;have hdk:fU (aA (nF "Signs" 0 aM aF) (aA (nF "Signs" 0 aM aF) (aA (nF "Signs" 0 aM aF) aF))) [a_ (.fl (ns.map PV.int)),d_ c,c_ lh,b_,b_,b_,b_,b_,b_,b_,b_,b_,b_,b_] h1=.ok (.ref (n+6)) (h1++[.ins "Signs" [("kept",.ref (n+1))],.dK [],.ins "Signs" [("kept",.ref (n+3))],.dK [],.ins "Signs" [("kept",.ref (n+5))],.dK [],.lst [.ref n,.ref (n+2),.ref (n+4)]]):=by rw[Pr,fF,CH,Rs.bind_ok,fF,CH,Rs.bind_ok,fF,CH,Rs.bind_ok,jU];simp[en]
 rw[aP,eY,hdk,bZ];simp only[di,dj];refine now ?_;rw[aP];simp[en];refine now ?_;rw[aP];simp[en];refine now ?_;rw[aP];refine Cb gh en hn l3 λlsl cs a d g L G A x1 x6 x7 x8 x9 x10 q h' hq H=>?_;refine now ?_;rw[aP];refine Qz H hq λg L x11 x12 h2 H2 f=>?_;exact now (Wu H2 ⋯ f k)
def main(ns:ue Int)(hl:ns.length<=63):∃h,MX [.fl (ns.map PV.int)] []=.ok (.bl true) h:=by
 have w:(MX [.fl (ns.map PV.int)] []).W λp _=>p=.bl true:=by
  refine kW ?_;unfold MW;rw[aP];simp;refine now ?_;rw[aP,fA];cases ns with
  |nil=>simp;exact now (S9 (ns:=[]) λ_=>rfl)
  |cons c ns=>
   have ea:atI (List.map PV.int (c::ns)) 0=d_ c:=jZ (i:=0) rfl;have et:∀δ:Ev,eK δ 0=a_ (.fl ((c::ns).map PV.int))->aU (aD vGt (mCB gH (aA (mV 0) aF)) (q_ 0)) δ []=.ok true []/\aD vAt (mV 0) (q_ 0) δ []=.ok (.int c) []:=λδ e=>by
    constructor
    ·simp[e]
    ·rw[cX,jT,e];simp only[Rs.bind_ok,Im];simp
   rw[(et _ rfl).1,bZ,if_pos (by rfl),eY,(et _ rfl).2,bZ];simp only[di,dj];exact now (S9 (ns:=c::ns) λ_=>rfl)
 let⟨p,h,e,rfl⟩:=rT w;exact⟨h,e⟩
def top(i:Nat):ud:=PySem.Challenge.pw_copymeet_k39_whole_written_apart.main.body.getD i (.Pass ⟨0,0,0,0⟩)
abbrev bsL:ue Str:=["len","range","zip","sorted","tuple","dict"]
abbrev cC(w:ua)(K:ag)(cl:Str->uf t7):MC:=⟨K,cl,bsL,λ_ _ _=>False,w⟩
abbrev pG:ud:=top 0
def NA:bL ["k"] ["k"] (aG pG):=jn 0
abbrev iT:ud:=top 5
def GM:bL ["place"] ["place"] (aG iT):=jn 0
abbrev gS:ud:=top 6
def EK:bL ["row"] ["row"] (aG gS):=jn 0
abbrev lK:ud:=top 7
def Kh:bL ["one","other"] ["one","other"] (aG lK):=jn 0
abbrev Bw:ud:=top 8
def Uh:bL ["left","right"] ["left","right"] (aG Bw):=jn 0
abbrev gU:ud:=top 9
def iD:bL ["spot","name","under","side","hand","n"] ["spot","name"] (aG gU):=jn 0
abbrev fP:ud:=top 10
def bK:bL ["deed","name","seen","act","word","thing","under","side","signs","hand","n","places","k"] ["deed"] (aG fP):=jn 0
abbrev cH:ud:=inClass (top 12) 0
def sZ:bL ["self"] ["self"] (aG cH):=jn 0
abbrev dO:ud:=inClass (top 12) 1
def gD:bL ["self","deed","signs","place","sign"] ["self","deed"] (aG dO):=jn 0
abbrev fQ:ud:=inClass (top 12) 2
def mU:bL ["self","places","gone","place"] ["self","places"] (aG fQ):=jn 0
abbrev eQ:ud:=inClass (top 12) 4
def Ak:bL ["self"] ["self"] (aG eQ):=jn 0
abbrev pH:ud:=top 14
def EL:bL ["_law_cell","_law_k","_law_number"] ["_law_cell","_law_k"] (aG pH):=jn 0
abbrev pI:ud:=top 15
def lM:bL ["_law_cell","_law_size","_law_at","_law_found","_law_k","_law_letter"] ["_law_cell"] (aG pI):=jn 0
abbrev pJ:ud:=top 16
def jK:bL ["_law_number","_law_many","_law_some","_law_word","_law_k"] ["_law_number","_law_many"] (aG pJ):=jn 0
abbrev uY:ud:=top 17
def CI:bL ["_law_hands_here","_law_who","_law_log","_law_counts","_law_n"] ["_law_hands_here","_law_who","_law_log"] (aG uY):=jn 0
abbrev Bx:ue Str:=["_law_hand","_law_log"]
def GN:(Bx).Nodup:=by decide +kernel
abbrev By:ue Str:=["_law_deed","_law_hand"]
def GO:(By).Nodup:=by decide +kernel
abbrev Bz:ue Str:=["_law_deed","_law_hands_here","_law_who"]
def GP:(Bz).Nodup:=by decide +kernel
abbrev BA:ue Str:=["_law_pair"]
def GQ:(BA).Nodup:=by decide +kernel
abbrev pK:ud:=top 18
def cN:bL ["_law_hands_here","_law_who","_law_log","_law_places","_law_cell","_law_number","_law_name_here","_law_seen","_law_at","_law_left","_law_right","_law_many","_law_under","_law_side"] ["_law_hands_here","_law_who","_law_log","_law_places","_law_cell"] (aG pK):=jn 0
abbrev uZ:ud:=top 19
def QB:bL ["_law_signs_here","_law_deed"] ["_law_signs_here","_law_deed"] (aG uZ):=jn 0
abbrev vA:ud:=top 20
def gE:bL ["_law_desks","_law_logs","_law_one","_law_other","_law_mine","_law_theirs","_law_sent","_law_back","_law_deed","_law_found","_law_there","_law_rows","_law_here"] ["_law_desks","_law_logs","_law_one","_law_other"] (aG vA):=jn 0
abbrev BB:ue Str:=["_law_deed","_law_logs","_law_other"]
def GR:(BB).Nodup:=by decide +kernel
abbrev BC:ue Str:=["_law_deed","_law_logs","_law_one"]
def GS:(BC).Nodup:=by decide +kernel
abbrev BD:ue Str:=["_law_row"]
def GT:(BD).Nodup:=by decide +kernel
abbrev BE:ue Str:=["_law_row"]
def GU:(BE).Nodup:=by decide +kernel
abbrev BF:ue Str:=["_law_row","_law_there"]
def GV:(BF).Nodup:=by decide +kernel
abbrev BG:ue Str:=["_law_row","_law_here"]
def GW:(BG).Nodup:=by decide +kernel
abbrev iU:ud:=top 21
def cV:bL ["_law_deed","_law_name_here","_law_seen","_law_act","_law_place","_law_side","_law_found","_law_k"] ["_law_deed"] (aG iU):=jn 0
abbrev eR:ud:=top 22
def bH:bL ["_law_rows","_law_log","_law_asides","_law_gone","_law_signs_here","_law_deed","_law_at","_law_k","_law_left","_law_right","_law_place","_law_sign"] ["_law_rows","_law_log","_law_asides"] (aG eR):=jn 0
abbrev nI:ue Str:=["_law_place"]
def vB:(nI).Nodup:=by decide +kernel
abbrev nJ:ue Str:=["_law_row","_law_gone"]
def vC:(nJ).Nodup:=by decide +kernel
abbrev tB:ud:=top 23
def fC:bL ["_law_script","_law_cell","_law_hands_here","_law_desks","_law_logs","_law_asides","_law_who","_law_places","_law_deed","_law_left","_law_right","_law_one","_law_other","_law_rows"] ["_law_script"] (aG tB):=jn 0
abbrev EM:ue Str:=["_law_place","_law_sign"]
def BH:(EM).Nodup:=by decide +kernel
def jL:("len" : Str)∈bsL:=(.head _)
def oK:("range" : Str)∈bsL:=(.tail _ (.head _))
def lN:("sorted" : Str)∈bsL:=(.tail _ (.tail _ (.tail _ (.head _))))
def EN:("tuple" : Str)∈bsL:=(.tail _ (.tail _ (.tail _ (.tail _ (.head _)))))
def J3:("dict" : Str)∈bsL:=(.tail _ (.tail _ (.tail _ (.tail _ (.tail _ (.head _))))))
section
variable{P:ub}{w:ua}{K:ag}{mg:o_ 0}{base:t_}{cl:Str->uf t7}
variable(P w K mg base cl)
abbrev NB:Prop:=∃a fd,Def K mg "_wall" pG a fd ["k"]/\bA P w K mg base CX0 1 a fd ["k"] (spM (cC w K cl) 1 IJ)
abbrev qR:Prop:=∃a fd,Def K mg "rank_of" iT a fd ["place"]/\bA P w K mg base CX0 1 a fd ["place"] (spM (cC w K cl) 1 gO)
abbrev oM:Prop:=∃a fd,Def K mg "row_rank" gS a fd ["row"]/\bA P w K mg base CX0 2 a fd ["row"] (spM (cC w K cl) 1 eJ)
abbrev BI:Prop:=∃a fd,Def K mg "before" lK a fd ["one","other"]/\bA P w K mg base CX0 2 a fd ["one","other"] (spM (cC w K cl) 2 oG)
abbrev NC:Prop:=∃a fd,Def K mg "gap" Bw a fd ["left","right"]/\bA P w K mg base CX0 3 a fd ["left","right"] (spM (cC w K cl) 2 Bm)
abbrev wH:Prop:=∃a fd,Def K mg "place_of" gU a fd ["spot","name"]/\bA P w K mg base CX0 1 a fd ["spot","name"] (spM (cC w K cl) 2 jF)
abbrev tD:Prop:=∃a fd,Def K mg "places_of" fP a fd ["deed"]/\bA P w K mg base CX0 2 a fd ["deed"] (spM (cC w K cl) 1 iB)
abbrev EO:Prop:=∃a fd,Def K mg "_law_mixed" pH a fd ["_law_cell","_law_k"]/\bA P w K mg base CX0 1 a fd ["_law_cell","_law_k"] (spM (cC w K cl) 2 mQ)
abbrev ES:Prop:=∃a fd,Def K mg "_law_hands" pI a fd ["_law_cell"]/\bA P w K mg base CX0 1 a fd ["_law_cell"] (spM (cC w K cl) 1 mR)
abbrev ET:Prop:=∃a fd,Def K mg "_law_signs" pJ a fd ["_law_number","_law_many"]/\bA P w K mg base CX0 1 a fd ["_law_number","_law_many"] (spM (cC w K cl) 2 sL)
abbrev J4:Prop:=∃a fd,Def K mg "_law_name" uY a fd ["_law_hands_here","_law_who","_law_log"]/\bA P w K mg base CX0 1 a fd ["_law_hands_here","_law_who","_law_log"] (spM (cC w K cl) 3 uR)
abbrev EU:Prop:=∃a fd,Def K mg "_law_doing" pK a fd ["_law_hands_here","_law_who","_law_log","_law_places","_law_cell"]/\bA P w K mg base CX0 4 a fd ["_law_hands_here","_law_who","_law_log","_law_places","_law_cell"] (spM (cC w K cl) 5 xI)
abbrev CJ:Prop:=∃a fd,Def K mg "_law_hear" uZ a fd ["_law_signs_here","_law_deed"]/\bA P w K mg base CX0 6 a fd ["_law_signs_here","_law_deed"] (spM (cC w K cl) 2 oJ)
abbrev J5:Prop:=∃a fd,Def K mg "_law_meet" vA a fd ["_law_desks","_law_logs","_law_one","_law_other"]/\bA P w K mg base CX0 7 a fd ["_law_desks","_law_logs","_law_one","_law_other"] (spM (cC w K cl) 4 uT)
abbrev zR:Prop:=∃a fd,Def K mg "_law_written" iU a fd ["_law_deed"]/\bA P w K mg base CX0 1 a fd ["_law_deed"] (spM (cC w K cl) 1 gQ)
abbrev pX:Prop:=∃a fd,Def K mg "_law_in_the_end" eR a fd ["_law_rows","_law_log","_law_asides"]/\bA P w K mg base CX0 2 a fd ["_law_rows","_law_log","_law_asides"] (spM (cC w K cl) 3 gB)
variable{P w K mg base cl}
def pQ{j:Nat}{nm:Str}{st:ud}{f:t7}{fd:e7}{ps:ue Str}{sp:Sp}(D:Def K mg nm st f fd ps)(h:Fun K nm nm st f fd->bA P w K mg base CX0 j f fd ps sp):∃a fd,Def K mg nm st a fd ps/\bA P w K mg base CX0 j a fd ps sp:=⟨_,_,D,h D.fn⟩
def ND{f:t7}{fd:e7}(hbn:∀x∈bsL,mg x=b_)(F:Fun K "_wall" "_wall" pG f fd):bA P w K mg base CX0 1 f fd ["k"] (spM (cC w K cl) 1 IJ):=
 fE (C:=cC w K cl) (k:=0) (N:=["k"]) (body:=II) (λ_ _ _ h=>h) hbn F NA λcdv A outer s H E=>
 (aJ (Pl (Ie rP)
  (aJ To)))
def GX{f:t7}{fd:e7}(hbn:∀x∈bsL,mg x=b_)(F:Fun K "rank_of" "rank_of" iT f fd):bA P w K mg base CX0 1 f fd ["place"] (spM (cC w K cl) 1 gO):=
 fE (C:=cC w K cl) (k:=0) (N:=["place"]) (body:=uQ) (λ_ _ _ h=>h) hbn F GM λcdv A outer s H E=>
 (aJ (cS (aN cB (aB 0) (cA (aC (cA (aC aH aI)) aI)))))
def EV{f:t7}{fd:e7}(hbn:∀x∈bsL,mg x=b_)(F:Fun K "row_rank" "row_rank" gS f fd)(iV:qR P w K mg base cl):bA P w K mg base CX0 2 f fd ["row"] (spM (cC w K cl) 1 eJ):=
 let ⟨_,_,pL,pM⟩:=iV;fE (C:=cC w K cl) (k:=1) (N:=["row"]) (body:=qN) (λ_ _ _ h=>h) hbn F EK λcdv A outer s H E=>
 (aJ (cS (s_call pL pM (aC (bR (aB 0) aH) aI))))
def Ki{f:t7}{fd:e7}(hbn:∀x∈bsL,mg x=b_)(F:Fun K "before" "before" lK f fd)(iV:qR P w K mg base cl):bA P w K mg base CX0 2 f fd ["one","other"] (spM (cC w K cl) 2 oG):=
 let ⟨_,_,pL,pM⟩:=iV;fE (C:=cC w K cl) (k:=1) (N:=["one","other"]) (body:=zG) (λ_ _ _ h=>h) hbn F Kh λcdv A outer s H E=>
 (aJ (cS (Vy Gc (s_call pL pM (aC (aB 0) aI)) (s_call pL pM (aC (aB 1) aI)))))
def Ui{f:t7}{fd:e7}(hbn:∀x∈bsL,mg x=b_)(F:Fun K "gap" "gap" Bw f fd)(zS:BI P w K mg base cl):bA P w K mg base CX0 3 f fd ["left","right"] (spM (cC w K cl) 2 Bm):=
 let ⟨_,_,NF,NG⟩:=zS;fE (C:=cC w K cl) (k:=2) (N:=["left","right"]) (body:=MT) (λ_ _ _ h=>h) hbn F Uh λcdv A outer s H E=>
 (aE (jB (bY Xy (aB 1) LC)
  (aJ (cS (cA (aC (aB 0) (aC aH aI)))))
  cY)
 (aE (jB (LJ (Ie (s_call NF NG (aC (aB 0) (aC (aB 1) aI)))))
  (aJ Wp)
  cY)
 (aE (jB (bY Ai (Tj (aB 1) Ti (yO (dW nS PyProof.Rows.Boot.«len» (aC (aB 0) aI) (hb:=jL)))) (aB 0))
  (aJ (cS (cA (aC (aB 1) (aC (Xv VI aH) aI)))))
  cY)
 (aJ (cS (cA (aC (aB 0) (aC aH aI))))))))
def EW{f:t7}{fd:e7}(hbn:∀x∈bsL,mg x=b_)(F:Fun K "place_of" "place_of" gU f fd):bA P w K mg base CX0 1 f fd ["spot","name"] (spM (cC w K cl) 2 jF):=
 fE (C:=cC w K cl) (k:=0) (N:=["spot","name","under","side","hand","n"]) (body:=qO) (λ_ _ _ h=>h) hbn F iD λcdv A outer s H E=>
 (aE (rR (aB 0) (jS (bF (aK iD.nd) (bF (aK iD.nd) jR))))
 (aE (rR (aB 1) (jS (bF (aK iD.nd) (bF (aK iD.nd) jR))))
 (aJ (cS (aN cB (aB 2) (cA (aC (cA (aC (aB 3) (aC (aB 4) (aC (aB 5) (aC aH aI))))) aI)))))))
def CK{f:t7}{fd:e7}(hbn:∀x∈bsL,mg x=b_)(F:Fun K "places_of" "places_of" fP f fd)(qS:wH P w K mg base cl):bA P w K mg base CX0 2 f fd ["deed"] (spM (cC w K cl) 1 iB):=
 let ⟨_,_,GY,GZ⟩:=qS;fE (C:=cC w K cl) (k:=1) (N:=["deed","name","seen","act","word","thing","under","side","signs","hand","n","places","k"]) (body:=oH) (λ_ _ _ h=>h) hbn F bK λcdv A outer s H E=>
 (aE (rR (aB 0) (jS (bF (aK bK.nd) (bF (aK bK.nd) (bF (aK bK.nd) jR)))))
 (aE (rR (aB 3) (jS (bF (aK bK.nd) (bF (aK bK.nd) (bF (aK bK.nd) (bF (aK bK.nd) (bF (aK bK.nd) jR)))))))
 (aE (rR (aB 1) (jS (bF (aK bK.nd) (bF (aK bK.nd) jR))))
 (aE (bJ (i:=11) bK.nd (jQ (aC (s_call GY GZ (aC (cA (aC (aB 6) (aC (aB 7) aI))) (aC (aB 1) aI))) aI)))
 (aE (jC (Tp (aC aH (aC (dW nS PyProof.Rows.Boot.«len» (aC (aB 8) aI) (hb:=jL)) aI)) (hb:=oK)) (aK bK.nd)
  (aJ (mZ (JJ jz jo jq kQ (aB 11) (aC (aN cB (bR (aB 11) (aN Ic (aB 12) aH)) (cA (aC (cA (aC aH (aC (aB 9) (aC (aB 10) (aC (aB 12) aI))))) aI))) aI)))))
 (aJ (cS (aB 11))))))))
def tE{f:t7}{fd:e7}(hbn:∀x∈bsL,mg x=b_)(F:Fun K "__init__" "Signs.__init__" cH f fd)(FF_kept:Eo (cC w K cl) "kept"):bA P w K mg base CX0 1 f fd ["self"] (spM (cC w K cl) 1 aM):=
 fE (C:=cC w K cl) (k:=0) (N:=["self"]) (body:=gP) (λ_ _ _ h=>h) hbn F sZ λcdv A outer s H E=>
 (aJ (W7 FF_kept C9 (aB 0)))
def zT{f:t7}{fd:e7}(hbn:∀x∈bsL,mg x=b_)(F:Fun K "write" "Signs.write" dO f fd)(oO:tD P w K mg base cl)(FF_kept:Eo (cC w K cl) "kept"):bA P w K mg base CX0 3 f fd ["self","deed"] (spM (cC w K cl) 2 dN):=
 let ⟨_,_,EX,EY⟩:=oO;fE (C:=cC w K cl) (k:=2) (N:=["self","deed","signs","place","sign"]) (body:=kC) (λ_ _ _ h=>h) hbn F gD λcdv A outer s H E=>
 (aE (bJ (i:=2) gD.nd (bR (bR (aB 1) aH) aH))
 (aJ (jC (Wo (aC (s_call EX EY (aC (aB 1) aI)) (aC (aB 2) aI)) (hb:=(.tail _ (.tail _ (.head _))))) (jS (bF (aK gD.nd) (bF (aK gD.nd) jR)))
  (aJ (Cn (aB 4) (IB FF_kept (aB 0)) (aB 3))))))
def CL{f:t7}{fd:e7}(hbn:∀x∈bsL,mg x=b_)(F:Fun K "cut" "Signs.cut" fQ f fd)(gW:oM P w K mg base cl)(FF_kept:Eo (cC w K cl) "kept"):bA P w K mg base CX0 5 f fd ["self","places"] (spM (cC w K cl) 2 fO):=
 let ⟨_,_,qT,qU⟩:=gW;fE (C:=cC w K cl) (k:=4) (N:=["self","places","gone","place"]) (body:=oI) (λ_ _ _ h=>h) hbn F mU λcdv A outer s H E=>
 (aE (bJ (i:=2) mU.nd (jQ aI))
 (aE (jC (eU (aB 1)) (aK mU.nd)
  (aJ (jB (bY qL (aB 3) (IB FF_kept (aB 0)))
   (aJ (mZ (JJ jz jo jq kQ (aB 2) (aC (cA (aC (aB 3) (aC (VY PySem.F.plainAttrs_dict PySem.F.slot_dict_pop PySem.F.type_dict_pop TZ (IB FF_kept (aB 0)) (aC (aB 3) aI)) aI))) aI))))
   cY)))
 (aJ (cS (Ex qT qU (aB 2) (hb:=lN))))))
def Al{f:t7}{fd:e7}(hbn:∀x∈bsL,mg x=b_)(F:Fun K "rows" "Signs.rows" eQ f fd)(gW:oM P w K mg base cl)(FF_kept:Eo (cC w K cl) "kept"):bA P w K mg base CX0 5 f fd ["self"] (spM (cC w K cl) 1 aQ):=
 let ⟨_,_,qT,qU⟩:=gW;fE (C:=cC w K cl) (k:=4) (N:=["self"]) (body:=mO) (λ_ _ _ h=>h) hbn F Ak λcdv A outer s H E=>
 (aJ (cS (Ex qT qU (VZ PySem.F.plainAttrs_dict PySem.F.slot_dict_items PySem.F.type_dict_items MD (IB FF_kept (aB 0))) (hb:=lN))))
def NH{f:t7}{fd:e7}(hbn:∀x∈bsL,mg x=b_)(F:Fun K "_law_mixed" "_law_mixed" pH f fd):bA P w K mg base CX0 1 f fd ["_law_cell","_law_k"] (spM (cC w K cl) 2 mQ):=
 fE (C:=cC w K cl) (k:=0) (N:=["_law_cell","_law_k","_law_number"]) (body:=Cs) (λ_ _ _ h=>h) hbn F EL λcdv A outer s H E=>
 (aE (jB (SW.t (w_and (bY Ai (aN fM (aB 0) aH) aH) (C8 (bY JC (aB 0) (aN RM aH aH)))))
  (aJ (cS (aN fM (aN kN (aB 0) aH) (aN RM aH aH))))
  cY)
 (aE (bJ (i:=2) EL.nd (aN fM (aN E9 (aN cB (aN cB (aB 0) (aN E9 aH (aB 1))) aH) aH) aH))
 (aJ (cS (aN fM (aN E9 (aB 2) (aN cB (aN kN (aB 2) aH) aH)) aH)))))
def NI{f:t7}{fd:e7}(hbn:∀x∈bsL,mg x=b_)(F:Fun K "_law_hands" "_law_hands" pI f fd):bA P w K mg base CX0 1 f fd ["_law_cell"] (spM (cC w K cl) 1 mR):=
 fE (C:=cC w K cl) (k:=0) (N:=["_law_cell","_law_size","_law_at","_law_found","_law_k","_law_letter"]) (body:=Ct) (λ_ _ _ h=>h) hbn F lM λcdv A outer s H E=>
 (aE (bJ (i:=1) lM.nd (aN cB aH (aN fM (aB 0) aH)))
 (aE (bJ (i:=2) lM.nd (aN fM (aN kN (aB 0) aH) (aB 1)))
 (aE (bJ (i:=3) lM.nd (jQ aI))
 (aE (jC (Ca (aC aH aI) (hb:=oK)) (aK lM.nd)
  (aE (bJ (i:=5) lM.nd (bR kL (aN fM (aN cB (aN kN (aB 0) aH) (aN E9 (aB 4) (aN cB aH (aN fM (aN kN (aB 0) aH) aH)))) aH)))
  (aJ (mZ (JJ jz jo jq kQ (aB 3) (aC (aN cB (aN cB (aN RQ kL (aB 2)) (aB 5)) (aN RQ kL (aN Ic (aN Ic (aB 1) aH) (aB 2)))) aI))))))
 (aJ (cS (aB 3)))))))
def NJ{f:t7}{fd:e7}(hbn:∀x∈bsL,mg x=b_)(F:Fun K "_law_signs" "_law_signs" pJ f fd):bA P w K mg base CX0 1 f fd ["_law_number","_law_many"] (spM (cC w K cl) 2 sL):=
 fE (C:=cC w K cl) (k:=0) (N:=["_law_number","_law_many","_law_some","_law_word","_law_k"]) (body:=Cu) (λ_ _ _ h=>h) hbn F jK λcdv A outer s H E=>
 (aE (bJ (i:=2) jK.nd kL)
 (aE (bJ (i:=2) jK.nd (aN cB (aB 2) kL))
 (aE (bJ (i:=3) jK.nd kL)
 (aE (jC (Ca (aC (aB 1) aI) (hb:=oK)) (aK jK.nd)
  (aE (bJ (i:=0) jK.nd (aN fM (aN cB (aN E9 (aB 0) aH) aH) aH))
  (aJ (bJ (i:=3) jK.nd (aN cB (aB 3) (bR (aB 2) (aN fM (aB 0) aH)))))))
 (aJ (cS (aB 3)))))))
def QC{f:t7}{fd:e7}(hbn:∀x∈bsL,mg x=b_)(F:Fun K "_law_name" "_law_name" uY f fd):bA P w K mg base CX0 1 f fd ["_law_hands_here","_law_who","_law_log"] (spM (cC w K cl) 3 uR):=
 fE (C:=cC w K cl) (k:=0) (N:=["_law_hands_here","_law_who","_law_log","_law_counts","_law_n"]) (body:=GB) (λ_ _ _ h=>h) hbn F CI λcdv A outer s H E=>
 (aE (oW (i:=3) CI.nd rfl rfl (js:=[b_,a_ 2]) (N:=Bx) rfl rfl (by rfl) (eU (dW PJ PyProof.Rows.Boot.«sorted» (aC (aB 0) aI) (hb:=lN))) (λ_ _ _ _=>(aK GN)) (λ_ _ _ _=>yQ) (λ_ _ _ _=>(cA (aC (aB 0) (aC (dW nS PyProof.Rows.Boot.«len» (aC (mL (js:=[b_,a_ 0]) (N:=By) rfl rfl (by rfl) (eU (aB 1)) (λ_ _ _ _=>(aK GO)) (λ_ _ _ _=>(nW (bY Ai (bR (bR (aB 0) aH) aH) (aB 1)))) (λ_ _ _ _=>(aB 0))) aI) (hb:=jL)) aI)))))
 (aE (bJ (i:=4) CI.nd (aN cB aH (dW nS PyProof.Rows.Boot.«len» (aC (mL (js:=[b_,a_ 0,a_ 1]) (N:=Bz) rfl rfl (by rfl) (eU (aB 2)) (λ_ _ _ _=>(aK GP)) (λ_ _ _ _=>(nW (bY Ai (bR (bR (aB 0) aH) aH) (bR (aB 1) (aB 2))))) (λ_ _ _ _=>(aB 0))) aI) (hb:=jL))))
 (aJ (cS (cA (aC (cA (aC (bR (aB 0) (aB 1)) (aC (aB 4) aI))) (aC (rQ Ii PyProof.Rows.Boot.«tuple» (aC (mL (js:=[b_]) (N:=BA) rfl rfl (by rfl) (eU (aB 3)) (λ_ _ _ _=>(aK GQ)) (λ_ _ _ _=>(nW (bY JC (bR (aB 0) aH) aH))) (λ_ _ _ _=>(aB 0))) aI) (hb:=EN)) aI)))))))
def NK{f:t7}{fd:e7}(hbn:∀x∈bsL,mg x=b_)(F:Fun K "_law_doing" "_law_doing" pK f fd)(NL:NC P w K mg base cl)(CM:EO P w K mg base cl)(CN:ET P w K mg base cl)(Ha:J4 P w K mg base cl):bA P w K mg base CX0 4 f fd ["_law_hands_here","_law_who","_law_log","_law_places","_law_cell"] (spM (cC w K cl) 5 xI):=
 let ⟨_,_,Wv,Ww⟩:=NL;let ⟨_,_,QD,QE⟩:=CM;let ⟨_,_,QF,QG⟩:=CN;let ⟨_,_,Uj,Uk⟩:=Ha;fE (C:=cC w K cl) (k:=3) (N:=["_law_hands_here","_law_who","_law_log","_law_places","_law_cell","_law_number","_law_name_here","_law_seen","_law_at","_law_left","_law_right","_law_many","_law_under","_law_side"]) (body:=Cv) (λ_ _ _ h=>h) hbn F cN λcdv A outer s H E=>
 (aE (bJ (i:=5) cN.nd (s_call QD QE (aC (aB 4) (aC aH aI))))
 (aE (rR (s_call Uj Uk (aC (aB 0) (aC (aB 1) (aC (aB 2) aI)))) (jS (bF (aK cN.nd) (bF (aK cN.nd) jR))))
 (aE (jB (SW.t (w_and (bY Ai (aN fM (aB 5) aH) aH) (C8 (bY JD (aB 3) (jQ aI)))))
  (aE (bJ (i:=8) cN.nd (aN fM (aN kN (aB 5) aH) (dW nS PyProof.Rows.Boot.«len» (aC (aB 3) aI) (hb:=jL))))
  (aJ (cS (cA (aC (cA (aC (aB 6) (aC (aB 7) (aC (cA (aC kL (aC (cA (aC kL (aC aH aI))) (aC (rQ Ii PyProof.Rows.Boot.«tuple» (aC (Tj (aB 3) (yO (aB 8)) (yO (aN cB (aN cB (aB 8) aH) (aN fM (aN kN (aB 5) aH) aH)))) aI) (hb:=EN)) aI)))) aI)))) (aC (cA aI) (aC LC aI)))))))
  cY)
 (aE (bJ (i:=8) cN.nd (aN fM (aN kN (aB 5) aH) (aN cB (dW nS PyProof.Rows.Boot.«len» (aC (aB 3) aI) (hb:=jL)) aH)))
 (aE (bJ (i:=9) cN.nd (cA aI))
 (aE (bJ (i:=10) cN.nd LC)
 (aE (jB (bY JC (aB 8) aH)
  (aJ (bJ (i:=9) cN.nd (bR (aB 3) (aN Ic (aB 8) aH))))
  cY)
 (aE (jB (bY Gc (aB 8) (dW nS PyProof.Rows.Boot.«len» (aC (aB 3) aI) (hb:=jL)))
  (aJ (bJ (i:=10) cN.nd (bR (aB 3) (aB 8))))
  cY)
 (aE (bJ (i:=11) cN.nd (aN cB aH (aN fM (aN kN (aB 5) aH) aH)))
 (aE (jB (bY Ai (aN fM (aN kN (aB 5) aH) aH) aH)
  (aJ (bJ (i:=11) cN.nd aH))
  cY)
 (aE (jB (bY JC (dW nS PyProof.Rows.Boot.«len» (aC (aB 3) aI) (hb:=jL)) aH)
  (aJ (bJ (i:=11) cN.nd aH))
  cY)
 (aE (rR (s_call Wv Ww (aC (aB 9) (aC (aB 10) aI))) (jS (bF (aK cN.nd) (bF (aK cN.nd) jR))))
 (aJ (cS (cA (aC (cA (aC (aB 6) (aC (aB 7) (aC (cA (aC kL (aC (cA (aC kL (aC aH aI))) (aC (aB 12) (aC (aB 13) (aC (s_call QF QG (aC (aB 5) (aC (aB 11) aI))) aI)))))) aI)))) (aC (aB 9) (aC (aB 10) aI))))))))))))))))))
def QH{f:t7}{fd:e7}(hbn:∀x∈bsL,mg x=b_)(F:Fun K "_law_hear" "_law_hear" uZ f fd){a_Signs:t7}(CL_Signs:cl "Signs" = a_ a_Signs)(HC_Signs:Cls K a_Signs){wI:t7}{tF:e7}(mW:qZ K a_Signs "cut" wI)(oP:bA P w K mg base CX0 5 wI tF ["self","places"] (spM (cC w K cl) 2 fO))(oQ:Binds K tF ["self","places"] []){pY:t7}{oR:e7}(jM:qZ K a_Signs "write" pY)(kF:bA P w K mg base CX0 3 pY oR ["self","deed"] (spM (cC w K cl) 2 dN))(kG:Binds K oR ["self","deed"] []):bA P w K mg base CX0 6 f fd ["_law_signs_here","_law_deed"] (spM (cC w K cl) 2 oJ):=
 fE (C:=cC w K cl) (k:=5) (N:=["_law_signs_here","_law_deed"]) (body:=GC) (λ_ _ _ h=>h) hbn F QB λcdv A outer s H E=>
 (aJ (jB (bY Ai (bR (bR (aB 1) aH) aH) kL)
  (aJ (mZ (Mu (tb:=Bp) (gZ CL_Signs HC_Signs jM nofun kF kG kB) (aB 0) (aC (aB 1) aI))))
  (aJ (mZ (Mu (tb:=Bq) (gZ CL_Signs HC_Signs mW nofun oP oQ kB) (aB 0) (aC (bR (bR (aB 1) aH) aH) aI))))))
def QI{f:t7}{fd:e7}(hbn:∀x∈bsL,mg x=b_)(F:Fun K "_law_meet" "_law_meet" vA f fd)(vD:CJ P w K mg base cl){a_Signs:t7}(CL_Signs:cl "Signs" = a_ a_Signs)(HC_Signs:Cls K a_Signs){gF:t7}{fG:e7}(bI:qZ K a_Signs "rows" gF)(bM:bA P w K mg base CX0 5 gF fG ["self"] (spM (cC w K cl) 1 aQ))(bN:Binds K fG ["self"] []):bA P w K mg base CX0 7 f fd ["_law_desks","_law_logs","_law_one","_law_other"] (spM (cC w K cl) 4 uT):=
 let ⟨_,_,CO,CP⟩:=vD;fE (C:=cC w K cl) (k:=6) (N:=["_law_desks","_law_logs","_law_one","_law_other","_law_mine","_law_theirs","_law_sent","_law_back","_law_deed","_law_found","_law_there","_law_rows","_law_here"]) (body:=GD) (λ_ _ _ h=>h) hbn F gE λcdv A outer s H E=>
 (aE (bJ (i:=4) gE.nd (jW (tb:=pC) (gZ CL_Signs HC_Signs bI nofun bM bN kB) (bR (aB 0) (aB 2))))
 (aE (bJ (i:=5) gE.nd (jW (tb:=uS) (gZ CL_Signs HC_Signs bI nofun bM bN kB) (bR (aB 0) (aB 3))))
 (aE (oW (i:=6) gE.nd rfl rfl (js:=[b_,a_ 1,a_ 3]) (N:=BB) rfl rfl (by rfl) (eU (bR (aB 1) (aB 2))) (λ_ _ _ _=>(aK GR)) (λ_ _ _ _=>(nW (bY uM (aB 0) (bR (aB 1) (aB 2))))) (λ_ _ _ _=>(aB 0)))
 (aE (oW (i:=7) gE.nd rfl rfl (js:=[b_,a_ 1,a_ 2]) (N:=BC) rfl rfl (by rfl) (eU (bR (aB 1) (aB 3))) (λ_ _ _ _=>(aK GS)) (λ_ _ _ _=>(nW (bY uM (aB 0) (bR (aB 1) (aB 2))))) (λ_ _ _ _=>(aB 0)))
 (aE (jC (eU (aB 6)) (aK gE.nd)
  (aJ (mZ (s_call CO CP (aC (bR (aB 0) (aB 3)) (aC (aB 8) aI))))))
 (aE (jC (eU (aB 7)) (aK gE.nd)
  (aJ (mZ (s_call CO CP (aC (bR (aB 0) (aB 2)) (aC (aB 8) aI))))))
 (aE (Cn (aN cB (bR (aB 1) (aB 3)) (aB 6)) (aB 1) (aB 3))
 (aE (Cn (aN cB (bR (aB 1) (aB 2)) (aB 7)) (aB 1) (aB 2))
 (aE (bJ (i:=9) gE.nd (jW (tb:=pD) (gZ CL_Signs HC_Signs bI nofun bM bN kB) (bR (aB 0) (aB 2))))
 (aE (jB (bY JD (aB 9) (jW (tb:=kY) (gZ CL_Signs HC_Signs bI nofun bM bN kB) (bR (aB 0) (aB 3))))
  (aJ (cS rP))
  cY)
 (aE (bJ (i:=10) gE.nd (rQ ID PyProof.Rows.Boot.«dict» (aC (mL (js:=[b_]) (N:=BD) rfl rfl (by rfl) (eU (aB 9)) (λ_ _ _ _=>(aK GT)) (λ_ _ _ _=>yQ) (λ_ _ _ _=>(cA (aC (aB 0) (aC rP aI))))) aI) (hb:=J3)))
 (aE (jC (eU (jQ (aC (aB 4) (aC (aB 5) aI)))) (aK gE.nd)
  (aE (bJ (i:=12) gE.nd (rQ ID PyProof.Rows.Boot.«dict» (aC (mL (js:=[b_]) (N:=BE) rfl rfl (by rfl) (eU (aB 11)) (λ_ _ _ _=>(aK GU)) (λ_ _ _ _=>yQ) (λ_ _ _ _=>(cA (aC (aB 0) (aC rP aI))))) aI) (hb:=J3)))
  (aJ (jB (bY JD (mL (js:=[b_,a_ 10]) (N:=BF) rfl rfl (by rfl) (eU (aB 11)) (λ_ _ _ _=>(aK GV)) (λ_ _ _ _=>(nW (bY qL (aB 0) (aB 1)))) (λ_ _ _ _=>(aB 0))) (mL (js:=[b_,a_ 12]) (N:=BG) rfl rfl (by rfl) (eU (aB 9)) (λ_ _ _ _=>(aK GW)) (λ_ _ _ _=>(nW (bY qL (aB 0) (aB 1)))) (λ_ _ _ _=>(aB 0))))
   (aJ (cS rP))
   cY))))
 (aJ (cS rP))))))))))))))
def Hb{f:t7}{fd:e7}(hbn:∀x∈bsL,mg x=b_)(F:Fun K "_law_written" "_law_written" iU f fd):bA P w K mg base CX0 1 f fd ["_law_deed"] (spM (cC w K cl) 1 gQ):=
 fE (C:=cC w K cl) (k:=0) (N:=["_law_deed","_law_name_here","_law_seen","_law_act","_law_place","_law_side","_law_found","_law_k"]) (body:=uU) (λ_ _ _ h=>h) hbn F cV λcdv A outer s H E=>
 (aE (rR (aB 0) (jS (bF (aK cV.nd) (bF (aK cV.nd) (bF (aK cV.nd) jR)))))
 (aE (bJ (i:=4) cV.nd (bR (aB 3) aH))
 (aE (bJ (i:=5) cV.nd (bR (aB 3) aH))
 (aE (bJ (i:=6) cV.nd (jQ aI))
 (aE (jC (Ca (aC (dW nS PyProof.Rows.Boot.«len» (aC (bR (aB 3) aH) aI) (hb:=jL)) aI) (hb:=oK)) (aK cV.nd)
  (aE (bJ (i:=4) cV.nd (aN cB (aB 4) (cA (aC (cA (aC (aB 5) (aC (bR (aB 1) aH) (aC (bR (aB 1) aH) (aC (aB 7) aI))))) aI))))
  (aE (bJ (i:=5) cV.nd aH)
  (aJ (mZ (JJ jz jo jq kQ (aB 6) (aC (cA (aC (aB 4) (aC (bR (bR (aB 3) aH) (aB 7)) aI))) aI)))))))
 (aJ (cS (aB 6))))))))
def Am{f:t7}{fd:e7}(hbn:∀x∈bsL,mg x=b_)(F:Fun K "_law_in_the_end" "_law_in_the_end" eR f fd)(vE:zR P w K mg base cl):bA P w K mg base CX0 2 f fd ["_law_rows","_law_log","_law_asides"] (spM (cC w K cl) 3 gB):=
 let ⟨_,_,BJ,BK⟩:=vE;fE (C:=cC w K cl) (k:=1) (N:=["_law_rows","_law_log","_law_asides","_law_gone","_law_signs_here","_law_deed","_law_at","_law_k","_law_left","_law_right","_law_place","_law_sign"]) (body:=mS) (λ_ _ _ h=>h) hbn F bH λcdv A outer s H E=>
 (aE (bJ (i:=3) bH.nd C9)
 (aE (bJ (i:=4) bH.nd (jQ aI))
 (aE (jC (eU (aB 1)) (aK bH.nd)
  (aJ (jB (bY Ai (bR (bR (aB 5) aH) aH) kL)
   (aJ (mZ (VY PySem.F.plainAttrs_dict PySem.F.slot_dict_update PySem.F.type_dict_update U3 (aB 3) (aC (mL (js:=[b_]) (N:=nI) rfl rfl (by rfl) (eU (bR (bR (aB 5) aH) aH)) (λ_ _ _ _=>(aK vB)) (λ_ _ _ _=>yQ) (λ_ _ _ _=>(cA (aC (aB 0) (aC rP aI))))) aI))))
   (aJ (bJ (i:=4) bH.nd (aN cB (aB 4) (s_call BJ BK (aC (aB 5) aI))))))))
 (aE (jB (bY JD (dW Be PyProof.Rows.Boot.«sorted» (aC (aB 0) aI) (hb:=lN)) (dW Be PyProof.Rows.Boot.«sorted» (aC (mL (js:=[b_,a_ 3]) (N:=nJ) rfl rfl (by rfl) (eU (aB 4)) (λ_ _ _ _=>(aK vC)) (λ_ _ _ _=>(nW (bY uM (bR (aB 0) aH) (aB 1)))) (λ_ _ _ _=>(aB 0))) aI) (hb:=lN)))
  (aJ (cS rP))
  cY)
 (aE (bJ (i:=6) bH.nd C9)
 (aE (jC (Ca (aC (dW nS PyProof.Rows.Boot.«len» (aC (aB 0) aI) (hb:=jL)) aI) (hb:=oK)) (aK bH.nd)
  (aJ (Cn (aB 7) (aB 6) (bR (bR (aB 0) (aB 7)) aH))))
 (aE (jC (eU (aB 2)) (jS (bF (aK bH.nd) (bF (aK bH.nd) (bF (aK bH.nd) jR))))
  (aJ (jC (eU (s_call BJ BK (aC (aB 5) aI))) (jS (bF (aK bH.nd) (bF (aK bH.nd) jR)))
   (aE (jB (SW.t (w_and (bY qL (aB 10) (aB 6)) (w_and (bY qL (aB 8) (aB 6)) (C8 (bY JC (bR (aB 6) (aB 8)) (bR (aB 6) (aB 10)))))))
    (aJ (cS rP))
    cY)
   (aJ (jB (SW.t (w_and (bY qL (aB 10) (aB 6)) (w_and (bY qL (aB 9) (aB 6)) (C8 (bY Gc (bR (aB 6) (aB 9)) (bR (aB 6) (aB 10)))))))
    (aJ (cS rP))
    cY))))))
 (aJ (cS rP)))))))))
def Ul{f:t7}{fd:e7}(hbn:∀x∈bsL,mg x=b_)(F:Fun K "law" "law" tB f fd)(CQ:ES P w K mg base cl)(CS:EU P w K mg base cl)(vD:CJ P w K mg base cl)(Hc:J5 P w K mg base cl)(mX:pX P w K mg base cl){a_Signs:t7}(CL_Signs:cl "Signs" = a_ a_Signs)(HC_Signs:Cls K a_Signs){gX:t7}{jX:e7}(jY:qZ K a_Signs "__init__" gX)(cZ:bA P w K mg base CX0 1 gX jX ["self"] (spM (cC w K cl) 1 aM))(dA:Binds K jX ["self"] []){gF:t7}{fG:e7}(bI:qZ K a_Signs "rows" gF)(bM:bA P w K mg base CX0 5 gF fG ["self"] (spM (cC w K cl) 1 aQ))(bN:Binds K fG ["self"] [])(MK_Signs:Mk K a_Signs gX)(MG_Signs:mg "Signs" = c_ a_Signs):bA P w K mg base CX0 8 f fd ["_law_script"] (spM (cC w K cl) 1 MX):=
 let ⟨_,_,QJ,QK⟩:=CQ;let ⟨_,_,QL,QM⟩:=CS;let ⟨_,_,CO,CP⟩:=vD;let ⟨_,_,NM,NN⟩:=Hc;let ⟨_,_,CT,CU⟩:=mX;fE (C:=cC w K cl) (k:=7) (N:=["_law_script","_law_cell","_law_hands_here","_law_desks","_law_logs","_law_asides","_law_who","_law_places","_law_deed","_law_left","_law_right","_law_one","_law_other","_law_rows"]) (body:=MW) (λ_ _ _ h=>h) hbn F fC λcdv A outer s H E=>
 (aE (bJ (i:=1) fC.nd aH)
 (aE (jB (bY JC (dW nS PyProof.Rows.Boot.«len» (aC (aB 0) aI) (hb:=jL)) aH)
  (aJ (bJ (i:=1) fC.nd (bR (aB 0) aH)))
  cY)
 (aE (bJ (i:=2) fC.nd (s_call QJ QK (aC (aB 1) aI)))
 (aE (bJ (i:=3) fC.nd (jQ (aC (Cm CL_Signs MK_Signs cZ MG_Signs dA) (aC (Cm CL_Signs MK_Signs cZ MG_Signs dA) (aC (Cm CL_Signs MK_Signs cZ MG_Signs dA) aI)))))
 (aE (bJ (i:=4) fC.nd (jQ (aC (jQ aI) (aC (jQ aI) (aC (jQ aI) aI)))))
 (aE (bJ (i:=5) fC.nd (jQ aI))
 (aE (jC (eU (Tj (aB 0) (yO aH) (yO aH))) (aK fC.nd)
  (aE (bJ (i:=6) fC.nd (aN fM (aB 1) aH))
  (aJ (jB (bY Ai (aN fM (aN kN (aB 1) aH) aH) aH)
   (aJ (jB (LJ (Ie (s_call NM NN (aC (aB 3) (aC (aB 4) (aC (aB 6) (aC (aN fM (aN cB (aN cB (aB 6) aH) (aN fM (aN kN (aB 1) aH) aH)) aH) aI)))))))
    (aJ (cS rP))
    cY))
   (aE (oW (i:=7) fC.nd rfl rfl (js:=[b_,b_]) (N:=EM) rfl rfl (by rfl) (eU (jW (tb:=zI) (gZ CL_Signs HC_Signs bI nofun bM bN kB) (bR (aB 3) (aB 6)))) (λ_ _ _ _=>(jS (bF (aK BH) (bF (aK BH) jR)))) (λ_ _ _ _=>yQ) (λ_ _ _ _=>(aB 0)))
   (aE (rR (s_call QL QM (aC (aB 2) (aC (aB 6) (aC (bR (aB 4) (aB 6)) (aC (aB 7) (aC (aN kN (aB 1) aH) aI)))))) (jS (bF (aK fC.nd) (bF (aK fC.nd) (bF (aK fC.nd) jR)))))
   (aE (mZ (s_call CO CP (aC (bR (aB 3) (aB 6)) (aC (aB 8) aI))))
   (aE (mZ (JJ jz jo jq kQ (bR (aB 4) (aB 6)) (aC (aB 8) aI)))
   (aJ (jB (bY Ai (bR (bR (aB 8) aH) aH) kL)
    (aJ (mZ (JJ jz jo jq kQ (aB 5) (aC (cA (aC (aB 8) (aC (aB 9) (aC (aB 10) aI)))) aI))))
    cY))))))))))
 (aE (jC (eU (jQ (aC (cA (aC aH (aC aH aI))) (aC (cA (aC aH (aC aH aI))) (aC (cA (aC aH (aC aH aI))) aI))))) (jS (bF (aK fC.nd) (bF (aK fC.nd) jR)))
  (aJ (jB (LJ (Ie (s_call NM NN (aC (aB 3) (aC (aB 4) (aC (aB 11) (aC (aB 12) aI)))))))
   (aJ (cS rP))
   cY)))
 (aE (bJ (i:=13) fC.nd (jW (tb:=sM) (gZ CL_Signs HC_Signs bI nofun bM bN kB) (bR (aB 3) aH)))
 (aE (jB (SW.t (w_or (bY JD (jW (tb:=sO) (gZ CL_Signs HC_Signs bI nofun bM bN kB) (bR (aB 3) aH)) (aB 13)) (VB (bY JD (jW (tb:=sN) (gZ CL_Signs HC_Signs bI nofun bM bN kB) (bR (aB 3) aH)) (aB 13)))))
  (aJ (cS rP))
  cY)
 (aJ (cS (s_call CT CU (aC (aB 13) (aC (bR (aB 4) aH) (aC (aB 5) aI))))))))))))))))
end
def spL(K:ag):Sp:=λvs H Q _=>∃(a:t7)(ns:ue Int),vs=[.ref a]/\La H/\SqL K H a (ns.map V.int)/\ns.length<=63/\∀H',Q (.bl true) H'
@[elab_as_elim]theorem EZ{P:ue s_->Prop}(us:ue s_)(hl:us.length=1)(h:∀a0,P [a0]):P us:=by
 cases us with
 |nil=>cases hl
 |cons a0 us=>
  cases us with
  |nil=>exact h a0
  |cons b us=>simp only[dm]at hl;omega
@[elab_as_elim]theorem F0{P:ue s_->Prop}(us:ue s_)(hl:us.length=2)(h:∀a0 a1,P [a0,a1]):P us:=by
 cases us with
 |nil=>cases hl
 |cons a0 us=>
  cases us with
  |nil=>cases hl
  |cons a1 us=>
   cases us with
   |nil=>exact h a0 a1
   |cons b us=>simp only[dm]at hl;omega
@[elab_as_elim]theorem Wx{P:ue s_->Prop}(us:ue s_)(hl:us.length=3)(h:∀a0 a1 a2,P [a0,a1,a2]):P us:=by
 cases us with
 |nil=>cases hl
 |cons a0 us=>
  cases us with
  |nil=>cases hl
  |cons a1 us=>
   cases us with
   |nil=>cases hl
   |cons a2 us=>
    cases us with
    |nil=>exact h a0 a1 a2
    |cons b us=>simp only[dm]at hl;omega
@[elab_as_elim]theorem XY{P:ue s_->Prop}(us:ue s_)(hl:us.length=4)(h:∀a0 a1 a2 a3,P [a0,a1,a2,a3]):P us:=by
 cases us with
 |nil=>cases hl
 |cons a0 us=>
  cases us with
  |nil=>cases hl
  |cons a1 us=>
   cases us with
   |nil=>cases hl
   |cons a2 us=>
    cases us with
    |nil=>cases hl
    |cons a3 us=>
     cases us with
     |nil=>exact h a0 a1 a2 a3
     |cons b us=>simp only[dm]at hl;omega
@[elab_as_elim]theorem XZ{P:ue s_->Prop}(us:ue s_)(hl:us.length=5)(h:∀a0 a1 a2 a3 a4,P [a0,a1,a2,a3,a4]):P us:=by
 cases us with
 |nil=>cases hl
 |cons a0 us=>
  cases us with
  |nil=>cases hl
  |cons a1 us=>
   cases us with
   |nil=>cases hl
   |cons a2 us=>
    cases us with
    |nil=>cases hl
    |cons a3 us=>
     cases us with
     |nil=>cases hl
     |cons a4 us=>
      cases us with
      |nil=>exact h a0 a1 a2 a3 a4
      |cons b us=>simp only[dm]at hl;omega
def all_mk{l:PySem.W.OpenLaw}{w:ua}{K:ag}{h:t_}{mg:o_ 0}{fa A_Signs bV fR eS dQ CV vF qV zV NO qW oS CW CY CZ Hd D0 He Hf vG mY NP:t7}(X:K.In h)(G:h.Ns fb mg)(hfa:mg "law" = c_ fa)(hbn:∀x∈bsL,mg x=b_)
  (n_Signs:gq K fb "Signs" = a_ (c_ A_Signs))
  (pg_Signs:qx K A_Signs Str.empty=true)
  (hd_Signs:PySem.W.hasDictIn K A_Signs=true)
  (po_Signs:PySem.W.plainOver K A_Signs=true)
  (sa_Signs:fw K (.ref A_Signs) "__setattr__" = a_ (a_ (.builtin "object.__setattr__")))
  (mk_Signs:PySem.W.makesIn K A_Signs=true)
  (kc_Signs:dg K (.ref A_Signs)=true)
  (nf_Signs_kept:fw K (.ref A_Signs) "kept" = a_ b_)
  (lQ:fw K (.ref A_Signs) "__init__" = a_ (c_ bV))
  (lT:r6 K (.ref bV)=true)
  {tG tH qX tI jN tJ:s_} {tK tL:uf t7} {qY:n_ 0}
  (vH:K.lookup bV=a_ ⟨tG,tK,.func (dw "__init__" "Signs.__init__" (bB cH) (aX cH) (aG cH) .none tH qX tI tL jN tJ),qY⟩)
  (vI:d0 K jN "Signs.__init__" = true)
  (lW:dg K (.ref bV)=true)
  (F1:fw K (.ref A_Signs) "cut" = a_ (c_ fR))
  (F2:r6 K (.ref fR)=true)
  {D3 D4 An D5 pZ D6:s_} {D7 D9:uf t7} {Ao:n_ 0}
  (F3:K.lookup fR=a_ ⟨D3,D7,.func (dw "cut" "Signs.cut" (bB fQ) (aX fQ) (aG fQ) .none D4 An D5 D9 pZ D6),Ao⟩)
  (F4:d0 K pZ "Signs.cut" = true)
  (wJ:dg K (.ref fR)=true)
  (Da:fw K (.ref A_Signs) "rows" = a_ (c_ eS))
  (Dc:r6 K (.ref eS)=true)
  {Ap Aq zW Ar oT Au:s_} {Av Aw:uf t7} {zX:n_ 0}
  (De:K.lookup eS=a_ ⟨Ap,Av,.func (dw "rows" "Signs.rows" (bB eQ) (aX eQ) (aG eQ) .none Aq zW Ar Aw oT Au),zX⟩)
  (Df:d0 K oT "Signs.rows" = true)
  (tM:dg K (.ref eS)=true)
  (Ax:fw K (.ref A_Signs) "write" = a_ (c_ dQ))
  (Ay:r6 K (.ref dQ)=true)
  {zY zZ wZ A0 nK A1:s_} {A2 A3:uf t7} {xB:n_ 0}
  (Az:K.lookup dQ=a_ ⟨zY,A2,.func (dw "write" "Signs.write" (bB dO) (aX dO) (aG dO) .none zZ wZ A0 A3 nK A1),xB⟩)
  (AA:d0 K nK "Signs.write" = true)
  (qA:dg K (.ref dQ)=true)
  (QN:gq K fb "_wall" = a_ (c_ CV))
  {NQ NR Kj NS BL NT:s_} {NU NV:uf t7} {Kk:n_ 0}
  (QO:K.lookup CV=a_ ⟨NQ,NU,.func (dw "_wall" "_wall" (bB pG) (aX pG) (aG pG) .none NR Kj NS NV BL NT),Kk⟩)
  (QP:d0 K BL "_wall" = true)
  (QQ:dg K (.ref CV)=true)
  (Kl:gq K fb "rank_of" = a_ (c_ vF))
  {Hg Hh F5 Hi wK Hj:s_} {Hk Hl:uf t7} {F6:n_ 0}
  (Km:K.lookup vF=a_ ⟨Hg,Hk,.func (dw "rank_of" "rank_of" (bB iT) (aX iT) (aG iT) .none Hh F5 Hi Hl wK Hj),F6⟩)
  (Kn:d0 K wK "rank_of" = true)
  (Ko:dg K (.ref vF)=true)
  (Hm:gq K fb "row_rank" = a_ (c_ qV))
  {F7 F8 Dg F9 tN Fb:s_} {Fc Fd:uf t7} {Dh:n_ 0}
  (Hn:K.lookup qV=a_ ⟨F7,Fc,.func (dw "row_rank" "row_rank" (bB gS) (aX gS) (aG gS) .none F8 Dg F9 Fd tN Fb),Dh⟩)
  (Ho:d0 K tN "row_rank" = true)
  (Hq:dg K (.ref qV)=true)
  (NW:gq K fb "before" = a_ (c_ zV))
  {Kr Ks Hr Kt A4 Ku:s_} {Kv Kw:uf t7} {Hs:n_ 0}
  (NX:K.lookup zV=a_ ⟨Kr,Kv,.func (dw "before" "before" (bB lK) (aX lK) (aG lK) .none Ks Hr Kt Kw A4 Ku),Hs⟩)
  (NY:d0 K A4 "before" = true)
  (NZ:dg K (.ref zV)=true)
  (Wy:gq K fb "gap" = a_ (c_ NO))
  {Um Uo QR Up J6 Uq:s_} {Ur Us:uf t7} {QS:n_ 0}
  (Wz:K.lookup NO=a_ ⟨Um,Ur,.func (dw "gap" "gap" (bB Bw) (aX Bw) (aG Bw) .none Uo QR Up Us J6 Uq),QS⟩)
  (WA:d0 K J6 "gap" = true)
  (WB:dg K (.ref NO)=true)
  (Ht:gq K fb "place_of" = a_ (c_ qW))
  {Fe Ff Di Fg tO Fh:s_} {Fi Fj:uf t7} {Dj:n_ 0}
  (Hu:K.lookup qW=a_ ⟨Fe,Fi,.func (dw "place_of" "place_of" (bB gU) (aX gU) (aG gU) .none Ff Di Fg Fj tO Fh),Dj⟩)
  (Hv:d0 K tO "place_of" = true)
  (Hw:dg K (.ref qW)=true)
  (Fk:gq K fb "places_of" = a_ (c_ oS))
  {Dk Dl AB Dm qB Dn:s_} {Do Dp:uf t7} {AC:n_ 0}
  (Fm:K.lookup oS=a_ ⟨Dk,Do,.func (dw "places_of" "places_of" (bB fP) (aX fP) (aG fP) .none Dl AB Dm Dp qB Dn),AC⟩)
  (Fo:d0 K qB "places_of" = true)
  (Fp:dg K (.ref oS)=true)
  (QT:gq K fb "_law_mixed" = a_ (c_ CW))
  {O0 O1 Kx O2 BM O3:s_} {O4 O5:uf t7} {Ky:n_ 0}
  (QU:K.lookup CW=a_ ⟨O0,O4,.func (dw "_law_mixed" "_law_mixed" (bB pH) (aX pH) (aG pH) .none O1 Kx O2 O5 BM O3),Ky⟩)
  (QV:d0 K BM "_law_mixed" = true)
  (QW:dg K (.ref CW)=true)
  (QX:gq K fb "_law_hands" = a_ (c_ CY))
  {O6 O7 Kz O8 BN O9:s_} {Oa Ob:uf t7} {KA:n_ 0}
  (QY:K.lookup CY=a_ ⟨O6,Oa,.func (dw "_law_hands" "_law_hands" (bB pI) (aX pI) (aG pI) .none O7 Kz O8 Ob BN O9),KA⟩)
  (QZ:d0 K BN "_law_hands" = true)
  (R0:dg K (.ref CY)=true)
  (R1:gq K fb "_law_signs" = a_ (c_ CZ))
  {Oc Od KB Oe BO Of:s_} {Og Oh:uf t7} {KC:n_ 0}
  (R3:K.lookup CZ=a_ ⟨Oc,Og,.func (dw "_law_signs" "_law_signs" (bB pJ) (aX pJ) (aG pJ) .none Od KB Oe Oh BO Of),KC⟩)
  (R4:d0 K BO "_law_signs" = true)
  (R5:dg K (.ref CZ)=true)
  (Ut:gq K fb "_law_name" = a_ (c_ Hd))
  {R6 R7 Oi R8 Fq R9:s_} {R' Ra:uf t7} {Oj:n_ 0}
  (Uu:K.lookup Hd=a_ ⟨R6,R',.func (dw "_law_name" "_law_name" (bB uY) (aX uY) (aG uY) .none R7 Oi R8 Ra Fq R9),Oj⟩)
  (Uv:d0 K Fq "_law_name" = true)
  (Uw:dg K (.ref Hd)=true)
  (Rb:gq K fb "_law_doing" = a_ (c_ D0))
  {Ol Om KD On BP Oo:s_} {Oq Os:uf t7} {KF:n_ 0}
  (Rc:K.lookup D0=a_ ⟨Ol,Oq,.func (dw "_law_doing" "_law_doing" (bB pK) (aX pK) (aG pK) .none Om KD On Os BP Oo),KF⟩)
  (Re:d0 K BP "_law_doing" = true)
  (Rf:dg K (.ref D0)=true)
  (Ux:gq K fb "_law_hear" = a_ (c_ He))
  {Ri Rj Ot Rm Fs Ro:s_} {Rp Rq:uf t7} {Ou:n_ 0}
  (Uy:K.lookup He=a_ ⟨Ri,Rp,.func (dw "_law_hear" "_law_hear" (bB uZ) (aX uZ) (aG uZ) .none Rj Ot Rm Rq Fs Ro),Ou⟩)
  (Uz:d0 K Fs "_law_hear" = true)
  (UA:dg K (.ref He)=true)
  (UB:gq K fb "_law_meet" = a_ (c_ Hf))
  {Rr Rt Ov Ru Ft Rv:s_} {Rw Rx:uf t7} {Ow:n_ 0}
  (UC:K.lookup Hf=a_ ⟨Rr,Rw,.func (dw "_law_meet" "_law_meet" (bB vA) (aX vA) (aG vA) .none Rt Ov Ru Rx Ft Rv),Ow⟩)
  (UD:d0 K Ft "_law_meet" = true)
  (UE:dg K (.ref Hf)=true)
  (KG:gq K fb "_law_written" = a_ (c_ vG))
  {Hx Hy Fu Hz wL HC:s_} {HE HF:uf t7} {Fv:n_ 0}
  (KH:K.lookup vG=a_ ⟨Hx,HE,.func (dw "_law_written" "_law_written" (bB iU) (aX iU) (aG iU) .none Hy Fu Hz HF wL HC),Fv⟩)
  (KI:d0 K wL "_law_written" = true)
  (KJ:dg K (.ref vG)=true)
  (Dq:gq K fb "_law_in_the_end" = a_ (c_ mY))
  {AD AE A5 AF oU AG:s_} {AH AI:uf t7} {A6:n_ 0}
  (Dr:K.lookup mY=a_ ⟨AD,AH,.func (dw "_law_in_the_end" "_law_in_the_end" (bB eR) (aX eR) (aG eR) .none AE A5 AF AI oU AG),A6⟩)
  (Ds:d0 K oU "_law_in_the_end" = true)
  (Dt:dg K (.ref mY)=true)
  (WC:gq K fb "law" = a_ (c_ NP))
  {UF Ox J7 Oy Du Oz:s_} {UG OA:uf t7} {Ry:n_ 0}
  (WD:K.lookup NP=a_ ⟨UF,UG,.func (dw "law" "law" (bB tB) (aX tB) (aG tB) .none Ox J7 Oy OA Du Oz),Ry⟩)
  (WE:d0 K Du "law" = true)
  (WG:dg K (.ref NP)=true)
  : ∃fd:e7,(∀(s:tw)(v:s_),BindsTo s fd ⟨[v],[]⟩ [("_law_script",v)])/\∀base:t_,K.In base->base.Ns fb mg->bA l.prog w K mg base CX0 8 fa fd ["_law_script"] (spL K):=by
 have e:=hfa.symm.trans (PySem.W.mg_of X G WC);cases e
 have CL_Signs:(i_ A_Signs) "Signs" = a_ A_Signs:=(if_pos rfl);have HC_Signs:Cls K A_Signs:=⟨pg_Signs,hd_Signs,po_Signs,sa_Signs⟩;have MG_Signs:mg "Signs" = c_ A_Signs:=PySem.W.mg_of X G n_Signs;have FF_kept:Eo (cC w K (i_ A_Signs)) "kept" := λc a hc=>by
  have hc':(i_ A_Signs) c=a_ a:=hc;dsimp only at hc';by_cases e_Signs:c="Signs"
  ·rw[if_pos e_Signs]at hc';cases hc'
   exact⟨HC_Signs,nf_Signs_kept⟩
  rw[if_neg e_Signs]at hc';cases hc'
 have jY:qZ K A_Signs "__init__" bV:=⟨lQ,lT,lW⟩;have lX:=qE (st:=cH) vH vI lW;have dA:=lX.binds (ps:=["self"]) λ_ _ _ _ _ _ us hl=>EZ us hl λ_=>rfl;have MK_Signs:Mk K A_Signs bV:=⟨mk_Signs,lQ,lT,kc_Signs⟩;have mW:qZ K A_Signs "cut" fR:=⟨F1,F2,wJ⟩;have wM:=qE (st:=fQ) F3 F4 wJ;have oQ:=wM.binds (ps:=["self","places"]) λ_ _ _ _ _ _ us hl=>F0 us hl λ_ _=>rfl;have bI:qZ K A_Signs "rows" eS:=⟨Da,Dc,tM⟩;have tP:=qE (st:=eQ) De Df tM;have bN:=tP.binds (ps:=["self"]) λ_ _ _ _ _ _ us hl=>EZ us hl λ_=>rfl;have jM:qZ K A_Signs "write" dQ:=⟨Ax,Ay,qA⟩;have qC:=qE (st:=dO) Az AA qA;have kG:=qC.binds (ps:=["self","deed"]) λ_ _ _ _ _ _ us hl=>F0 us hl λ_ _=>rfl;refine⟨dw "law" "law" (bB tB) (aX tB) (aG tB) .none Ox J7 Oy OA Du Oz,λs v=>.of_eq rfl,λbase _ _=>?_⟩;have X4:NB l.prog w K mg base (i_ A_Signs):=pQ (Def.mk' X G QN QO QP QQ (λ_ _ _ _ _ _ us hl=>EZ us hl λ_=>rfl)) λF=>ND (cl:=i_ A_Signs) hbn F;have iV:qR l.prog w K mg base (i_ A_Signs):=pQ (Def.mk' X G Kl Km Kn Ko (λ_ _ _ _ _ _ us hl=>EZ us hl λ_=>rfl)) λF=>GX (cl:=i_ A_Signs) hbn F;have gW:oM l.prog w K mg base (i_ A_Signs):=pQ (Def.mk' X G Hm Hn Ho Hq (λ_ _ _ _ _ _ us hl=>EZ us hl λ_=>rfl)) λF=>EV (cl:=i_ A_Signs) hbn F iV;have zS:BI l.prog w K mg base (i_ A_Signs):=pQ (Def.mk' X G NW NX NY NZ (λ_ _ _ _ _ _ us hl=>F0 us hl λ_ _=>rfl)) λF=>Ki (cl:=i_ A_Signs) hbn F iV;have NL:NC l.prog w K mg base (i_ A_Signs):=pQ (Def.mk' X G Wy Wz WA WB (λ_ _ _ _ _ _ us hl=>F0 us hl λ_ _=>rfl)) λF=>Ui (cl:=i_ A_Signs) hbn F zS;have qS:wH l.prog w K mg base (i_ A_Signs):=pQ (Def.mk' X G Ht Hu Hv Hw (λ_ _ _ _ _ _ us hl=>F0 us hl λ_ _=>rfl)) λF=>EW (cl:=i_ A_Signs) hbn F;have oO:tD l.prog w K mg base (i_ A_Signs):=pQ (Def.mk' X G Fk Fm Fo Fp (λ_ _ _ _ _ _ us hl=>EZ us hl λ_=>rfl)) λF=>CK (cl:=i_ A_Signs) hbn F qS;have cZ:bA l.prog w K mg base CX0 1 bV _ ["self"] (spM (cC w K (i_ A_Signs)) 1 aM):=tE (cl:=i_ A_Signs) hbn lX FF_kept;have kF:bA l.prog w K mg base CX0 3 dQ _ ["self","deed"] (spM (cC w K (i_ A_Signs)) 2 dN):=zT (cl:=i_ A_Signs) hbn qC oO FF_kept;have oP:bA l.prog w K mg base CX0 5 fR _ ["self","places"] (spM (cC w K (i_ A_Signs)) 2 fO):=CL (cl:=i_ A_Signs) hbn wM gW FF_kept;have bM:bA l.prog w K mg base CX0 5 eS _ ["self"] (spM (cC w K (i_ A_Signs)) 1 aQ):=Al (cl:=i_ A_Signs) hbn tP gW FF_kept;have CM:EO l.prog w K mg base (i_ A_Signs):=pQ (Def.mk' X G QT QU QV QW (λ_ _ _ _ _ _ us hl=>F0 us hl λ_ _=>rfl)) λF=>NH (cl:=i_ A_Signs) hbn F;have CQ:ES l.prog w K mg base (i_ A_Signs):=pQ (Def.mk' X G QX QY QZ R0 (λ_ _ _ _ _ _ us hl=>EZ us hl λ_=>rfl)) λF=>NI (cl:=i_ A_Signs) hbn F;have CN:ET l.prog w K mg base (i_ A_Signs):=pQ (Def.mk' X G R1 R3 R4 R5 (λ_ _ _ _ _ _ us hl=>F0 us hl λ_ _=>rfl)) λF=>NJ (cl:=i_ A_Signs) hbn F;have Ha:J4 l.prog w K mg base (i_ A_Signs):=pQ (Def.mk' X G Ut Uu Uv Uw (λ_ _ _ _ _ _ us hl=>Wx us hl λ_ _ _=>rfl)) λF=>QC (cl:=i_ A_Signs) hbn F;have CS:EU l.prog w K mg base (i_ A_Signs):=pQ (Def.mk' X G Rb Rc Re Rf (λ_ _ _ _ _ _ us hl=>XZ us hl λ_ _ _ _ _=>rfl)) λF=>NK (cl:=i_ A_Signs) hbn F NL CM CN Ha;have vD:CJ l.prog w K mg base (i_ A_Signs):=pQ (Def.mk' X G Ux Uy Uz UA (λ_ _ _ _ _ _ us hl=>F0 us hl λ_ _=>rfl)) λF=>QH (cl:=i_ A_Signs) hbn F CL_Signs HC_Signs mW oP oQ jM kF kG;have Hc:J5 l.prog w K mg base (i_ A_Signs):=pQ (Def.mk' X G UB UC UD UE (λ_ _ _ _ _ _ us hl=>XY us hl λ_ _ _ _=>rfl)) λF=>QI (cl:=i_ A_Signs) hbn F vD CL_Signs HC_Signs bI bM bN;have vE:zR l.prog w K mg base (i_ A_Signs):=pQ (Def.mk' X G KG KH KI KJ (λ_ _ _ _ _ _ us hl=>EZ us hl λ_=>rfl)) λF=>Hb (cl:=i_ A_Signs) hbn F;have mX:pX l.prog w K mg base (i_ A_Signs):=pQ (Def.mk' X G Dq Dr Ds Dt (λ_ _ _ _ _ _ us hl=>Wx us hl λ_ _ _=>rfl)) λF=>Am (cl:=i_ A_Signs) hbn F vE;refine(Ul (cl:=i_ A_Signs) hbn (qE (st:=tB) WD WE WG) CQ CS vD Hc mX CL_Signs HC_Signs jY cZ dA bI bM bN MK_Signs MG_Signs).imp λvs H Q E hh=>?_;let⟨a,ns,rfl,hO,hS,hl,hq⟩:=hh;exact Tq (C:=cC w K (i_ A_Signs)) hO hS (main ns hl) hq
def walk{l:PySem.W.OpenLaw}{q:ub}{loose:ue Str}{XP:(o_ 0)->t_->Prop}{YP:ua->t_->Prop}{d:DefRec}{K:Params->ag}(hn:l.most=a_ 63)(hdf:d.params.defaults=[])
  (hY:∀(w:ua)(h:t_),YP w h->(K w.params).In h)
  (F:∀(w:ua)(mg:o_ 0)(fa:t7)(h:t_),(K w.params).In h->h.Ns fb mg->mg d.name=c_ fa->
   ∃fd:e7,(∀(s:tw)(u:s_),BindsTo s fd ⟨[u],[]⟩ [("_law_script",u)])/\∀base:t_,(K w.params).In base->base.Ns fb mg->bA l.prog w (K w.params) mg base CX0 8 fa fd ["_law_script"] (spL (K w.params))):
  PySem.W.WalkO q loose XP YP l.row.toRowW d [] (λf vs=>PySem.call f vs):=
 L2.walk_of (n:=63) (k:=8) (x:="_law_script") (CX:=λ_=>CX0) (sp:=λw=>spL (K w.params)) hn nofun hdf ⟨rfl,nofun,nofun⟩ hY F (λw H a ns hl hO hS=>⟨a,ns,rfl,hO,hS,hl,λ_=>rfl⟩) λ_ _ _ _ _ z=>z
end K39
open PySem PySem.W PyProof.Rows
set_option maxRecDepth 100000 in
set_option maxHeartbeats 0 in
inductive PySem.W.Fast|tw3814311601583479092|tw16921451898461992012|tw7753566245167517576|tw6760162442822743673|tw8338511239531057809|tw17061802826298283148|tw929090259734645254|tw13221265052466491593|tw15075633875246346813|tw12242381062313627396|tw1545516538832000399|tw3883518931139069112|tw17985855508816103236|tw1911923854384569731|tw12788980612151702249|tw8699249347900401848|tw3236911969658756426|tw8414286642510369487|tw9388034285202870819|tw3187763805278049257|tw13215263881890282901|tw471716088893134065|tw3822377275317617425|tw8979246243218238891|tw9977118018660418157|tw6474082985089602762|tw794549619522068937|tw1144896885044343080|tw5045822655871690281|tw15800824784489060025|tw264685219041287057|tw13981940398933973449|tw17505849701533288541|tw1084263976975691751|tw9525684363120688560|tw17019721275980857152|tw8546374014815517281|tw6875775525652830791|tw3301347301895027741|tw10291385256937141718|tw14188524375651365276|tw7608604255917131838|tw12608750191427315575|tw10959984167349310282|tw3870972014130605123|tw11831656330833522888|tw9608837680342675190|tw14103928022114859903|tw15584615005295626545|tw9965995531156806532|tw11696756753572353034|tw15047718461805605944|tw6768988821953382354|tw8283533539386326291|tw9103543109167098888|tw8633309517920828609|tw7689323074013498592|tw7086042208272308631|tw3534344344382309056|tw3853812996660891701|tw18386470514969311649|tw5861698464639091954|tw55016710538755050|tw11227104343929180869|tw3242321290104844832|tw6054036240908647967|tw14591778783953867116|tw7811109343416765301|tw16108956151706566784|tw11053150948169637097|tw2690687777850167237|tw13285745726124120525|tw8844529433559380996|tw16237755156973287263|tw11704375879911825931|tw7378060788853952367|tw5292903415613506060|tw15265015458619075609
theorem PySem.Challenge.cw_copymeet_k39_whole_written_apart_holds : PySem.Challenge.rw_copymeet_k39_whole_written_apart.Holds := by
 w_on; o_law; k_head; (case hw=>w_witness2)
 k_fill
 refine K39.walk (l:=PySem.Challenge.rw_copymeet_k39_whole_written_apart) rfl rfl (fun w h Y=>PySem.W.kIn_of Y) ?F
 case F=>
  intro w mg fa h KX G hmg
  have hbn:∀ x∈K39.bsL,mg x=none:=fun x hx=>by
   rcases List.mem_cons.mp hx with rfl | hx
   ·exact PySem.W.mg_none_of KX G (by k_is)
   rcases List.mem_cons.mp hx with rfl | hx
   ·exact PySem.W.mg_none_of KX G (by k_is)
   rcases List.mem_cons.mp hx with rfl | hx
   ·exact PySem.W.mg_none_of KX G (by k_is)
   rcases List.mem_cons.mp hx with rfl | hx
   ·exact PySem.W.mg_none_of KX G (by k_is)
   rcases List.mem_cons.mp hx with rfl | hx
   ·exact PySem.W.mg_none_of KX G (by k_is)
   rcases List.mem_cons.mp hx with rfl | hx
   ·exact PySem.W.mg_none_of KX G (by k_is)
   cases hx
  refine' K39.all_mk KX G hmg hbn ?h0 ?h1 ?h2 ?h3 ?h4 ?h5 ?h6 ?h7 ?h8 ?h9 ?h10 ?h11 ?h12 ?h13 ?h14 ?h15 ?h16 ?h17 ?h18 ?h19 ?h20 ?h21 ?h22 ?h23 ?h24 ?h25 ?h26 ?h27 ?h28 ?h29 ?h30 ?h31 ?h32 ?h33 ?h34 ?h35 ?h36 ?h37 ?h38 ?h39 ?h40 ?h41 ?h42 ?h43 ?h44 ?h45 ?h46 ?h47 ?h48 ?h49 ?h50 ?h51 ?h52 ?h53 ?h54 ?h55 ?h56 ?h57 ?h58 ?h59 ?h60 ?h61 ?h62 ?h63 ?h64 ?h65 ?h66 ?h67 ?h68 ?h69 ?h70 ?h71 ?h72 ?h73 ?h74 ?h75 ?h76 ?h77 ?h78 ?h79 ?h80 ?h81 ?h82 ?h83 ?h84 ?h85 ?h86 ?h87 ?h88 ?h89 ?h90 ?h91 ?h92 ?h93 ?h94 ?h95
  (case h0=>k_is)
  (case h1=>k_is)
  (case h2=>k_is)
  (case h3=>k_is)
  (case h4=>k_is)
  (case h5=>k_is)
  (case h6=>k_is)
  (case h7=>k_is)
  (case h8=>k_is)
  (case h9=>k_is)
  (case h10=>k_is)
  (case h11=>k_is)
  (case h12=>k_is)
  (case h13=>k_is)
  (case h14=>k_is)
  (case h15=>k_is)
  (case h16=>k_is)
  (case h17=>k_is)
  (case h18=>k_is)
  (case h19=>k_is)
  (case h20=>k_is)
  (case h21=>k_is)
  (case h22=>k_is)
  (case h23=>k_is)
  (case h24=>k_is)
  (case h25=>k_is)
  (case h26=>k_is)
  (case h27=>k_is)
  (case h28=>k_is)
  (case h29=>k_is)
  (case h30=>k_is)
  (case h31=>k_is)
  (case h32=>k_is)
  (case h33=>k_is)
  (case h34=>k_is)
  (case h35=>k_is)
  (case h36=>k_is)
  (case h37=>k_is)
  (case h38=>k_is)
  (case h39=>k_is)
  (case h40=>k_is)
  (case h41=>k_is)
  (case h42=>k_is)
  (case h43=>k_is)
  (case h44=>k_is)
  (case h45=>k_is)
  (case h46=>k_is)
  (case h47=>k_is)
  (case h48=>k_is)
  (case h49=>k_is)
  (case h50=>k_is)
  (case h51=>k_is)
  (case h52=>k_is)
  (case h53=>k_is)
  (case h54=>k_is)
  (case h55=>k_is)
  (case h56=>k_is)
  (case h57=>k_is)
  (case h58=>k_is)
  (case h59=>k_is)
  (case h60=>k_is)
  (case h61=>k_is)
  (case h62=>k_is)
  (case h63=>k_is)
  (case h64=>k_is)
  (case h65=>k_is)
  (case h66=>k_is)
  (case h67=>k_is)
  (case h68=>k_is)
  (case h69=>k_is)
  (case h70=>k_is)
  (case h71=>k_is)
  (case h72=>k_is)
  (case h73=>k_is)
  (case h74=>k_is)
  (case h75=>k_is)
  (case h76=>k_is)
  (case h77=>k_is)
  (case h78=>k_is)
  (case h79=>k_is)
  (case h80=>k_is)
  (case h81=>k_is)
  (case h82=>k_is)
  (case h83=>k_is)
  (case h84=>k_is)
  (case h85=>k_is)
  (case h86=>k_is)
  (case h87=>k_is)
  (case h88=>k_is)
  (case h89=>k_is)
  (case h90=>k_is)
  (case h91=>k_is)
  (case h92=>k_is)
  (case h93=>k_is)
  (case h94=>k_is)
  (case h95=>k_is)
