import PyProof.Rows.All
import Wide.All
import OpenK.AllK
import Wide.FinOn
import Lean
import PyProof.EqAt
import PyProof.EqKinds
import PyProof.TupleCall
import PyProof.NeKinds
import KE.KDictOf
import PyProof.AttrMissHeap
import PyProof.WalksMore
import PyProof.MeetsDict
import KE.KDictList
import KE.KRevIter
import PyProof.DictItemsLoops
import PyProof.DictWalks
import KE.KSortTup
import KE.KDictSum
import PyProof.SumAny
import PyProof.Conv_int_bool
import PyProof.Conv_int
import KE.KRevSl
import PyProof.MeetsStr
import PyProof.StrCalls3
import PyProof.Rows.TupDisplay
import PySem.Challenge.RW_copymeet_k79_whole_sunk_is_seen_by_all
open PySem renaming wpAny_bind->aa,wpAny_pure->ag,sizeLine->aw,mainGlobals->b8,starEach->cf,compareOp->cu,FuncData->c3,sizeLine_eq->c6,Spec->c8,wpAny_holding->dg,cellsFrom->d5,binaryOp->ff,sysModules->fh,wpAny_newObj_type->ft,wpAny_mono->gx,wpAny_typeNameOfWhole_valiter->ir,foldedSetIterable->iz,wpAny_truthy_bool->i3,assignEach->i9,wpAny_call_entry->ja,wpAny_Call_Name_kw->jc,tupleKind_room_in1->je,call_meetsIn->jf,wpAny_notOrdered_dict->jh,wpAny_rule->jt,wpAny_typeNameOf_valiter->jx,mem_of_lookup->j6,wpAny_callSpecial?_slot->j7,plainId_quiet->ka,NameKind->km,codeAny_builtin->k0,wpAny_dictEntries->k7,wpAny_pyIter_list->k8,wpAny_tryCatch->l0,dictSetDefault->l7,bootBuiltins->mf,wpAny_typeOf->mj
open List renaming getElem?_eq_some_iff->ab,length_map->ae,mem_cons_self->aj,mem_append_right->ak,mem_cons_of_mem->ao,mem_map->aq,size_toArray->ar,getElem?_map->au,mem_filter->av,prefix_rfl->ax,map_cons->ay,range->ba,mem_cons->bc,getElem?_set_ne->bf,mem_append->bj,mem_singleton->bu,lookup_cons->cb,mem_of_getElem?->cg,map_map->cj,replicate->cm,all_eq_true->cw,map_append->cz,prefix_append->c7,length_filter_le->c9,length_cons->da,pairwise_cons->de,pairwise_map->df,filterMap_cons->dj,getElem?_append_left->dk,mem_iff_getElem?->dw,map_congr_left->d0,length_append->d7,length_take->d9,getElem?_append_right->e9,getD_eq_getElem?_getD->fb,mem_or_eq_of_mem_set->fi,getElem_mem->fm,filter_sublist->fq,nodup_cons->fu,getElem?_cons_succ->fv,mem_append_left->f7,filter_cons->f9,perm_ext_iff_of_nodup->gg,getElem?_set_self->gj,ext_getElem?->g7,take_add_one->g9,mem_range->ia,all_cons->ib,pairwise_iff_getElem->ic,length_set->ig,getElem?_eq_getElem->iq,take_length->iu,nodup_append->i4,find?_cons->i5,set_cons_succ->jj,set_cons_zero->jk,getElem?_eq_none_iff->jm,drop_eq_getElem_cons->jo,length_range->jv,idxOf_lt_length_iff->jy,toArray->j4,any_cons->j8,length_pos_iff->kg,getElem?_eq_none->k6,pairwise_append->lj,drop_length->l9,append_nil->my,sum_cons->m4
open PySem.W renaming Frag->af,keepIn->bg,codeIn->bq,fnOf->bw,nsIn->c5,findIn->lp,katRev->m6
open PySem.Heap renaming get?_push_of_some->ah,lt_size->az,get?_push_size->a8,SameBut->ie,get?_push_ne->ju,get?_update_ne->j9,size_push->kj,get?_update_self->kr,size_update->l8
open Nat renaming le_refl->ai,ne_of_lt->a9,lt_of_lt_of_le->bp,zero_le->b9,le_trans->c4,lt_irrefl->fj,lt_or_eq_of_le->f6,le_of_lt->iy,le_succ_of_le->jw,lt_trans->mn
open Option renaming map_eq_some_iff->a7,isSome_some->jd
open Option.some renaming inj->bh
open Bool renaming false_ne_true->bz,and_eq_true->cq,false_eq_true->dt,eq_iff_iff->ij,beq_eq_decide_eq->k4
open PySem.Value renaming none->cx,ref->dm
open PySem.Obj renaming mapSeq->cy,data_mapDictKeys->lg
open PySem.NameKind renaming free->dh,cell->mz
open PyProof.Rows renaming slot_tuple_getitem->dr,get?_update_seq->i6,listUpdate_at->jg,mirror_perm->kz
open Array renaming length_toList->dz
open PySem.Heap.SameBut renaming update->d4
open PySem.Builtin.Tuple renaming tupleHashOf->d6,tupleExact->jr,tupleItemsOf->k9
open PySem.F renaming slot_dict_get->d8,plainAttrs_list->eu,slot_dict_valueiterator_next->fg,entry_dict_get->gq,plainAttrs_dict->ix,slot_list_append->jz,type_list_append->j0,plain_max_loop->kh,slot_dict_setdefault->ko
open PySem.Paired renaming length->ee
open List.Pairwise renaming of_map->fe,nil->m5
open Classical renaming propDecidable->fw
open False renaming elim->gz
open List.Nodup renaming length_le_of_subset->ik,idxOf_getElem->mq
open List.Perm renaming eq_of_pairwise->ip
open PySem.Around renaming under_plainId->iw
open Int renaming emod_nonneg->i7,le_refl->i8,emod_lt_of_pos->ji,toNat_natCast->jq
open PySem.Builtin.Slice renaming slicePlaces->jl,sliceAdjust->lu
open PySem.Str renaming ofString->j3
open Ne renaming symm->j5
open PySem.Builtin.Dict renaming updateFrom->kc
open True renaming intro->ki
open PySem.Builtin.Dict_items renaming ownsTuple->kn
open PySem.Builtin.Str renaming strSliceIndices->ku
open Array.Perm renaming refl->kx
open Sum renaming inr->md
open Iff renaming rfl->m7
set_option Elab.async false
set_option linter.all false
set_option maxRecDepth 1000000
set_option maxHeartbeats 4000000
namespace L2
open PySem PySem.Spec PyProof.Rows
abbrev Key:=Sum Int Str
def vH:Key->Value->Bool
 | .inl k,v=>Value.isInt k v
 | .inr x,v=>Value.isStrOf x v
def Sh (w:World):Key->Int
 | .inl k=>hashInt k
 | .inr x=>hashStr w x
theorem bV:∀ {k:Key} {v:Value},vH k v=true->(∃ i t,k=Sum.inl i/\v=Value.int i t)\/(∃ x t,k=md x/\v=Value.str x t)
 | .inl i,v,h=>by
  obtain ⟨t,e⟩:=Value.isInt_shape (k:=i) (v:=v) h;exact .inl ⟨i,t,rfl,e⟩
 | .inr x,v,h=>by
  obtain ⟨t,e⟩:=Value.isStrOf_shape (x:=x) (v:=v) h;exact .inr ⟨x,t,rfl,e⟩
theorem IP (i:Int) (t:Tok):vH (.inl i) (.int i t)=true:=by simp [vH,Value.isInt]
theorem IQ (x:Str) (t:Tok):vH (.inr x) (.str x t)=true:=by simp [vH,Value.isStrOf]
theorem Si (a b:Int):decide ((Sum.inl a:Key)=Sum.inl b)=(a == b):=by
 by_cases e:a=b
 ·subst e; simp
 ·have h:¬ (Sum.inl a:Key)=Sum.inl b:=fun q=>e (Sum.inl.inj q);rw [decide_eq_false h];exact (beq_eq_false_iff_ne.mpr e).symm
theorem Sj (a b:Str):decide ((md a:Key)=md b)=decide (a=b):=by
 by_cases e:a=b
 ·subst e; simp
 ·have h:¬ (md a:Key)=md b:=fun q=>e (Sum.inr.inj q);rw [decide_eq_false h,decide_eq_false e]
theorem Sk (a:Int) (b:Str):decide ((Sum.inl a:Key)=md b)=false:=decide_eq_false (fun q=>nomatch q)
theorem Sl (a:Str) (b:Int):decide ((md a:Key)=Sum.inl b)=false:=decide_eq_false (fun q=>nomatch q)
def bL (prog:Program) (w:World):PySem.KeyKind prog w Key where
 is:=vH
 hash:=Sh w
 inj:=fun v a b ha hb=>by
  rcases bV ha with ⟨i,t,rfl,rfl⟩ | ⟨x,t,rfl,rfl⟩
  ·rcases bV hb with ⟨j,u,rfl,e⟩ | ⟨y,u,rfl,e⟩
   ·injection e with e1 _; rw [e1]
   ·exact nomatch e
  ·rcases bV hb with ⟨j,u,rfl,e⟩ | ⟨y,u,rfl,e⟩
   ·exact nomatch e
   ·injection e with e1 _; rw [e1]
 byValue:=fun k v h=>by
  rcases bV h with ⟨i,t,rfl,rfl⟩ | ⟨x,t,rfl,rfl⟩ <;> rfl
 pyHash:=fun hv h=>by
  rcases bV hv with ⟨i,t,rfl,rfl⟩ | ⟨x,t,rfl,rfl⟩
  ·exact wpAny_pyHash_int h
  ·exact wpAny_pyHash_str h
 eqBool:=fun hu hv h=>by
  rcases bV hu with ⟨i,t,rfl,rfl⟩ | ⟨x,t,rfl,rfl⟩
  ·rcases bV hv with ⟨j,u,rfl,rfl⟩ | ⟨y,u,rfl,rfl⟩
   ·rw [Si] at h; exact wpAny_eqBool_int h
   ·rw [Sk] at h; exact SeqAt.EqAt.int_str i t y u _ _ _ _ h
  ·rcases bV hv with ⟨j,u,rfl,rfl⟩ | ⟨y,u,rfl,rfl⟩
   ·rw [Sl] at h; exact SeqAt.EqAt.str_int x t j u _ _ _ _ h
   ·rw [Sj] at h; exact wpAny_eqBool_str h
 «strs»:=fun k x t v h=>by
  rcases bV h with ⟨i,u,rfl,e⟩ | ⟨y,u,rfl,e⟩
  ·exact nomatch e
  ·injection e with e1 _;subst e1;cases v <;> rfl
theorem CY (prog:Program) (w:World) (i:Int) (t:Tok):(bL prog w).is (.inl i) (.int i t)=true:=IP i t
theorem CZ (prog:Program) (w:World) (x:Str) (t:Tok):(bL prog w).is (.inr x) (.str x t)=true:=IQ x t
inductive V where
 | non | bl (b:Bool) | int (i:Int) | str (x:Str) | byt (b:Array UInt8) | flt (b:UInt64) | ref (a:Addr) | ty (n:String)
 deriving DecidableEq
def RelV:V->Value->Prop
 | .non,u=>u=cx
 | .bl b,u=>u=Value.bool b
 | .int i,u=>∃ t,u=Value.int i t
 | .str x,u=>∃ t,u=Value.str x t
 | .byt b,u=>∃ t,u=Value.bytes b t
 | .flt b,u=>∃ t,u=Value.float b t
 | .ref a,u=>u=dm a
 | .ty n,u=>u=Value.type n
abbrev aM:List V->List Value->Prop:=Paired RelV
theorem aM.length {xs:List V} {us:List Value} (r:aM xs us):xs.length=us.length:=ee r
theorem aM.get:∀ {xs:List V} {us:List Value} {i:Nat} {x:V},aM xs us->xs[i]?=some x->∃ u,us[i]?=some u/\RelV x u
 | _,_,_,_,.nil,e=>by simp at e
 | _,_,0,_,.cons r _,e=>by simp at e; subst e; exact ⟨_,rfl,r⟩
 | _,_,i+1,x,.cons _ t,e=>by
  obtain ⟨u,h1,h2⟩:=aM.get (i:=i) (x:=x) t (by simpa using e)
  exact ⟨u,by simpa using h1,h2⟩
theorem aM.set {x:V} {u:Value} (r:RelV x u):∀ {xs:List V} {us:List Value} (i:Nat),aM xs us->aM (xs.set i x) (us.set i u)
 | _,_,_,.nil=>.nil
 | _,_,0,.cons _ t=>.cons r t
 | _,_,i+1,.cons q t=>.cons q (aM.set r i t)
theorem aM.append:∀ {xs ys:List V} {us ws:List Value},aM xs us->aM ys ws->aM (xs++ys) (us++ws)
 | _,_,_,_,.nil,s=>s
 | _,_,_,_,.cons r t,s=>.cons r (aM.append t s)
theorem aM.take:∀ {xs:List V} {us:List Value} (n:Nat),aM xs us->aM (xs.take n) (us.take n)
 | _,_,0,_=>.nil
 | _,_,_+1,.nil=>.nil
 | _,_,n+1,.cons r t=>.cons r (aM.take n t)
theorem aM.drop:∀ {xs:List V} {us:List Value} (n:Nat),aM xs us->aM (xs.drop n) (us.drop n)
 | _,_,0,r=>r
 | _,_,_+1,.nil=>.nil
 | _,_,n+1,.cons _ t=>aM.drop n t
def uK:Option V->Option Value->Prop
 | some v,some u=>RelV v u
 | none,none=>True
 | _,_=>False
def KV {κ:Type}:List (κ×V)->List (κ×Value)->Prop:=Paired fun (p:κ×V) (q:κ×Value)=>p.1=q.1/\RelV p.2 q.2
def kV:Key->V
 | .inl i=>.int i
 | .inr x=>.str x
inductive HO where
 /-- a list -/
 | lst (xs:List V)
 /-- a tuple (never changes) -/
 | tup (xs:List V)
 /-- a dict whose keys are ints and texts; one whose keys are tuples of ints and texts (the empty one is both) -/
 | dK (kvs:List (Key×V)) | dT (kvs:List (List Key×V))
 /-- a set of ints: its members,its size -/
 | set (S:Int->Bool) (n:Nat)
 /-- an instance of the class at C,its dict at dx,its attributes -/
 | ins (C dx:Addr) (fs:List (Str×V))
 /-- the dict of the instance at x -/
 | own (x:Addr)
 /-- the dict of an exception -/
 | xd (fs:List (Str×V))
 /-- a bound method,f of x -/
 | met (f x:Addr)
 /-- a range object lo,lo+1,.. below hi -/
 | rng (lo hi:Int)
 /-- a thing that is known to the object (the script; a dict while a loop walks it): read,never written while it is so -/
 | frz (o:Obj) (u:HO)
 /-- a code object's table -/
 | tbl (ps:Array Value)
 /-- any other thing,by what is true of its one object (a def of one's own: SetO a S n:=HO.ext fun h=>..) -/
 | ext (φ:Heap->Prop)
abbrev Hp:=Addr->Option HO
def upd (H:Hp) (a:Addr) (o:HO):Hp:=fun b=>if b=a then some o else H b
theorem bH {H:Hp} {a:Addr} {o:HO}:upd H a o a=some o:=by unfold upd; rw [if_pos rfl]
theorem bF {H:Hp} {a b:Addr} {o:HO} (h:b≠a):upd H a o b=H b:=by unfold upd; rw [if_neg h]
theorem UY {H:Hp} {a b:Addr} {o u:HO} (h:H a=some o) (h':H b=some u) (d:o≠u):a≠b:=by
 intro e; subst e; rw [h] at h'; exact d (bh h')
theorem cO {H:Hp} {a b:Addr} {o:HO} (h:H a=some o) (h':H b=none):a≠b:=by
 intro e; subst e; rw [h] at h'; cases h'
def oZ (h:Heap) (a:Addr) (items:Array Value):Prop:=∃ o,h.get? a=some o/\o.cls=.type "tuple" /\ (∃ n,o.data=.seq items n)/\o.dict=none
theorem oZ.is {h:Heap} {a:Addr} {items:Array Value} (x:oZ h a items):PyProof.Rows.IsTup h a items:=let ⟨o,h1,h2,h3,_⟩:=x; ⟨o,h1,h2,h3⟩
theorem oZ.lt {h:Heap} {a:Addr} {items:Array Value} (x:oZ h a items):a < h.objs.size:=let ⟨_,h1,_⟩:=x; az h1
theorem oZ.new (h:Heap) (items:Array Value):oZ (h.push { cls:=.type "tuple",data:=.seq items 0 }) h.objs.size items:=⟨_,a8 _ rfl,rfl,⟨_,rfl⟩,rfl⟩
section
variable (P:Program) (w:World)
def cP (H:Hp) (h:Heap) (a:Addr):HO->Prop
 | .lst xs=>xs.length<=aw/\∃ (its:List Value) (n:Nat),aM xs its/\h.get? a=some { cls:=.type "list",data:=.seq its.toArray n }
 | .tup xs=>xs.length<=aw/\∃ its:List Value,aM xs its/\oZ h a its.toArray
 | .dK kvs=>kvs.length<=aw/\(a == fh)=false/\∃ vs,KV kvs vs/\h.DictOf (bL P w) a vs
 | .dT kvs=>kvs.length<=aw/\(a == fh)=false/\∃ xs:List (List Key×Addr×Value),
   Paired (fun (p:List Key×V) (q:List Key×Addr×Value)=>p.1=q.1/\H q.2.1=some (.tup (p.1.map kV))/\RelV p.2 q.2.2) kvs xs/\
   ∃ o es ep,h.get? a=some o/\o.ExactDict/\o.data=.dict es ep/\es.toList=xs.map (entryOfKey (tupleKind (bL P w)))/\(xs.map (·.1)).Nodup
 | .set S n=>h.SetOf (intKind P w) a S n
 | .ins C dx fs=>H dx=some (.own a)/\fs.length<=1000/\dx≠a/\h.get? a=some (PySem.W.instObj C dx)/\
   ∃ mA,h.Ns1 dx mA/\(∀ f,uK (fs.lookup f) (mA f))/\PySem.Within mA (fs.map (·.1))
 | .own _=>∃ o,h.get? a=some o
 | .xd fs=>∃ mA,h.Ns1 a mA/\∀ f,uK (fs.lookup f) (mA f)
 | .rng lo hi=>∃ t u v,h.get? a=some { cls:=.type "range",data:=.fields #[.int lo t,.int hi u,.int 1 v] }
 | .frz o u=>h.get? a=some o/\cP H h a u
 | .tbl ps=>h.get? a=some { cls:=.none,data:=.fields ps }
 | .met f x=>h.get? a=some (PySem.W.methodObj (.ref f) (.ref x))
 | .ext φ=>φ h/\(∃ o,h.get? a=some o)/\∀ h1 h2:Heap,φ h1->(∀ o,h1.get? a=some o->h2.get? a=some o)->φ h2
def HOk (H:Hp) (h:Heap):Prop:=∀ a o,H a=some o->cP P w H h a o
end
section
variable {P:Program} {w:World} {H H':Hp} {h h':Heap} {a:Addr} {o:HO}
theorem cP.lt (x:cP P w H h a o):a < h.objs.size:=by
 cases o with
 | lst xs=>obtain ⟨_,_,_,_,e⟩:=x; exact az e
 | tup xs=>obtain ⟨_,_,_,p⟩:=x; exact oZ.lt p
 | dK kvs=>obtain ⟨_,_,_,_,o,_,_,e,_⟩:=x; exact az e
 | dT kvs=>obtain ⟨_,_,_,_,o,_,_,e,_⟩:=x; exact az e
 | set S n=>obtain ⟨o,_,_,_,e,_⟩:=x; exact az e
 | ins C dx fs=>obtain ⟨_,_,_,e,_⟩:=x; exact az e
 | own y=>obtain ⟨_,e⟩:=x; exact az e
 | xd fs=>obtain ⟨_,⟨_,_,_,e,_⟩,_⟩:=x; exact az e
 | rng lo hi=>obtain ⟨_,_,_,e⟩:=x; exact az e
 | frz ob u=>obtain ⟨e,_⟩:=x; exact az e
 | tbl ps=>exact az (show h.get? a=some _ from x)
 | met f y=>exact az (show h.get? a=some _ from x)
 | ext φ=>obtain ⟨_,⟨_,e⟩,_⟩:=x; exact az e
theorem Paired.mapP {α β:Type} {F G:α->β->Prop}:∀ {l₁:List α} {l₂:List β},Paired F l₁ l₂->(∀ a b,F a b->G a b)->Paired G l₁ l₂
 | _,_,.nil,_=>.nil
 | _,_,.cons r t,f=>.cons (f _ _ r) (Paired.mapP t f)
theorem cP.stay (x:cP P w H h a o) (k:∀ b u,(b=a\/H b=some (.own a))->h.get? b=some u->h'.get? b=some u)
  (ho:∀ b,H b=some (.own a)->H' b=some (.own a)) (ht:∀ b xs,H b=some (.tup xs)->H' b=some (.tup xs)):cP P w H' h' a o:=by
 induction o with
 | lst xs=>obtain ⟨z,its,n,r,e⟩:=x; exact ⟨z,its,n,r,k _ _ (.inl rfl) e⟩
 | tup xs=>obtain ⟨z,its,r,ob,e,c⟩:=x; exact ⟨z,its,r,ob,k _ _ (.inl rfl) e,c⟩
 | dK kvs=>obtain ⟨z,y,vs,r,ob,es,ep,e,c⟩:=x; exact ⟨z,y,vs,r,ob,es,ep,k _ _ (.inl rfl) e,c⟩
 | dT kvs=>
  obtain ⟨z,y,xs,r,ob,es,ep,e,c⟩:=x;exact ⟨z,y,xs,Paired.mapP r fun p q z=>⟨z.1,ht _ _ z.2.1,z.2.2⟩,ob,es,ep,k _ _ (.inl rfl) e,c⟩
 | set S n=>obtain ⟨ob,es,ep,t,e,c⟩:=x; exact ⟨ob,es,ep,t,k _ _ (.inl rfl) e,c⟩
 | ins C dx fs=>
  obtain ⟨d,z,ne,e,mA,⟨od,es,ep,e2,c⟩,r⟩:=x;exact ⟨ho _ d,z,ne,k _ _ (.inl rfl) e,mA,⟨od,es,ep,k _ _ (.inr d) e2,c⟩,r⟩
 | own y=>obtain ⟨ob,e⟩:=x; exact ⟨ob,k _ _ (.inl rfl) e⟩
 | xd fs=>obtain ⟨mA,⟨od,es,ep,e,c⟩,r⟩:=x; exact ⟨mA,⟨od,es,ep,k _ _ (.inl rfl) e,c⟩,r⟩
 | rng lo hi=>obtain ⟨t,u,v,e⟩:=x; exact ⟨t,u,v,k _ _ (.inl rfl) e⟩
 | frz ob u ih=>obtain ⟨e,q⟩:=x; exact ⟨k _ _ (.inl rfl) e,ih q⟩
 | tbl ps=>
  have e:h.get? a=some { cls:=.none,data:=.fields ps }:=x
  show h'.get? a=some { cls:=.none,data:=.fields ps }
  exact k a _ (.inl rfl) e
 | met f y=>
  have e:h.get? a=some (PySem.W.methodObj (.ref f) (.ref y)):=x
  show h'.get? a=some (PySem.W.methodObj (.ref f) (.ref y))
  exact k a _ (.inl rfl) e
 | ext φ=>obtain ⟨p,⟨o,e⟩,st⟩:=x; exact ⟨st _ _ p fun o q=>k _ _ (.inl rfl) q,⟨o,k _ _ (.inl rfl) e⟩,st⟩
theorem HOk.lt (x:HOk P w H h) (e:H a=some o):a < h.objs.size:=(x a o e).lt
theorem HOk.fresh (x:HOk P w H h) (e:h.objs.size<=a):H a=none:=by
 cases q:H a with
 | none=>rfl
 | some u=>exact absurd (bp (x.lt q) e) (fj _)
theorem HOk.kept (x:HOk P w H h) (k:∀ b u,h.get? b=some u->h'.get? b=some u):HOk P w H h':=fun a o e=>
 (x a o e).stay (fun b u _ q=>k b u q) (fun _ q=>q) fun _ _ q=>q
theorem HOk.laid (x:HOk P w H h) (k:∀ b u,h.get? b=some u->h'.get? b=some u) (hp:h.objs.size<=a) (new:cP P w (upd H a o) h' a o):HOk P w (upd H a o) h':=fun b u e=>by
 have hn:=x.fresh hp
 by_cases hb:b=a
 ·subst hb; rw [bH] at e; cases e; exact new
 ·rw [bF hb] at e;exact (x b u e).stay (fun c v _ q=>k c v q) (fun c q=>by rw [bF (cO q hn)]; exact q) fun c xs q=>by rw [bF (cO q hn)]; exact q
end
def Rd (H:Hp) (a:Addr) (u:HO):Prop:=H a=some u\/∃ o,H a=some (.frz o u)
theorem Rd.ok {P:Program} {w:World} {H:Hp} {h:Heap} {a:Addr} {u:HO} (r:Rd H a u) (x:HOk P w H h):cP P w H h a u:=by
 rcases r with r | ⟨o,r⟩
 ·exact x a u r
 ·obtain ⟨_,q⟩:=x a _ r;exact q
def Mut:Option HO->Prop
 | some (.lst _)=>True
 | some (.dK _)=>True
 | some (.dT _)=>True
 | some (.set _ _)=>True
 | some (.ins _ _ _)=>True
 | some (.ext _)=>True
 | _=>False
section
variable {P:Program} {w:World} {H:Hp} {h h':Heap} {x e:Addr} {o':HO}
theorem HOk.write (ok:HOk P w H h) (mu:Mut (H x)) (he:e=x\/H e=some (.own x)) (k:∀ b u,b≠e->h.get? b=some u->h'.get? b=some u) (heo:∃ u,h'.get? e=some u)
  (new:cP P w (upd H x o') h' x o'):HOk P w (upd H x o') h':=fun b u q=>by
 have nown:∀ c y,H c=some (.own y)->c≠x:=fun c y r z=>by subst z; rw [r] at mu; exact mu
 have ntup:∀ c xs,H c=some (.tup xs)->c≠x:=fun c xs r z=>by subst z; rw [r] at mu; exact mu
 by_cases hb:b=x
 ·subst hb; rw [bH] at q; cases q; exact new
 ·rw [bF hb] at q
  by_cases hbe:b=e
  ·have q':H b=some (.own x):=by
    rcases he with z | z
    ·exact absurd (hbe.trans z) hb
    ·rw [hbe]; exact z
   rw [q] at q'; cases q';obtain ⟨v,hv⟩:=heo;exact ⟨v,by rw [hbe]; exact hv⟩
  ·refine (ok b u q).stay (fun c v hc r=>k c v ?_ r) (fun c r=>by rw [bF (nown c b r)]; exact r) fun c xs r=>by rw [bF (ntup c xs r)]; exact r
   rcases hc with rfl | hc
   ·exact hbe
   ·rintro rfl;rcases he with z | z
    ·exact nown c b hc z
    ·rw [hc] at z; cases z; exact hb rfl
end
structure Un (fs ex:List Addr) (H H':Hp) (h h':Heap):Prop where
 keep:∀ b o,h.get? b=some o->H b=none->b∉fs->b∉ex->h'.get? b=some o
 slot:∀ b o,h.get? b=some o->H b=none->b∈fs->b∉ex->∃ sl,h'.get? b=some { o with slots:=sl }
 free:∀ b o,h.get? b=some o->H b=none->b∉ex->H' b=none
 there:∀ b o,h.get? b=some o->b∉ex->∃ o',h'.get? b=some o'
 tups:∀ b xs,H b=some (.tup xs)->H' b=some (.tup xs)
 frzs:∀ b o u,H b=some (.frz o u)->H' b=some (.frz o u)
 tbls:∀ b ps,H b=some (.tbl ps)->∃ more,H' b=some (.tbl (ps++more))
section
variable {fs fs' ex ex':List Addr} {H H1 H2:Hp} {h h1 h2 h':Heap} {a x e:Addr} {o:HO}
theorem Un.any (u:Un fs ex H H1 h h1) {b:Addr} {ob:Obj} (q:h.get? b=some ob) (n:H b=none) (hx:b∉ex):∃ sl,h1.get? b=some { ob with slots:=sl }:=by
 by_cases hb:b∈fs
 ·exact u.slot b ob q n hb hx
 ·exact ⟨ob.slots,u.keep b ob q n hb hx⟩
theorem Un.kept (k:∀ b u,h.get? b=some u->h'.get? b=some u):Un fs ex H H h h':=
 ⟨fun b ob q _ _ _=>k b ob q,fun b ob q _ _ _=>⟨ob.slots,k b ob q⟩,fun _ _ _ n _=>n,fun b ob q _=>⟨ob,k b ob q⟩,fun _ _ q=>q,fun _ _ _ q=>q,fun _ ps q=>⟨#[],by rw [q]; simp⟩⟩
theorem Un.refl:Un fs ex H H h h:=Un.kept fun _ _ q=>q
theorem Un.laid (k:∀ b u,h.get? b=some u->h'.get? b=some u) (hp:h.objs.size<=a) (hn:H a=none):Un fs ex H (upd H a o) h h' where
 keep:=fun b u q _ _ _=>k b u q
 slot:=fun b u q _ _ _=>⟨u.slots,k b u q⟩
 free:=fun b u q n _=>by rw [bF (a9 (bp (az q) hp))]; exact n
 there:=fun b u q _=>⟨u,k b u q⟩
 tups:=fun b xs q=>by rw [bF (cO q hn)]; exact q
 frzs:=fun b u xs q=>by rw [bF (cO q hn)]; exact q
 tbls:=fun b ps q=>⟨#[],by rw [bF (cO q hn),q]; simp⟩
theorem Un.write (mu:Mut (H x)) (he:e=x\/H e=some (.own x)) (k:∀ b u,b≠e->h.get? b=some u->h'.get? b=some u) (heo:∃ u,h'.get? e=some u):Un fs ex H (upd H x o) h h':=by
 have hx:∀ b,H b=none->b≠x:=fun b n z=>by subst z; rw [n] at mu; exact mu
 have hb:∀ b,H b=none->b≠e:=fun b n z=>by
  subst z;rcases he with r | r
  ·exact hx b n r
  ·rw [n] at r; cases r
 have hm:∀ b u,H b=some u->¬ Mut (some u)->b≠x:=fun b u q nm z=>by subst z; rw [q] at mu; exact nm mu
 refine ⟨fun b u q n _ _=>k b u (hb b n) q,fun b u q n _ _=>⟨u.slots,k b u (hb b n) q⟩,fun b u q n _=>by rw [bF (hx b n)]; exact n,fun b u q _=>?_,
  fun b xs q=>by rw [bF (hm b _ q fun z=>z)]; exact q,fun b u xs q=>by rw [bF (hm b _ q fun z=>z)]; exact q,fun b ps q=>⟨#[],by rw [bF (hm b _ q fun z=>z),q]; simp⟩⟩
 by_cases hbe:b=e
 ·subst hbe; exact heo
 ·exact ⟨u,k b u hbe q⟩
end
def trk (h:Heap) (H:Hp):List Addr:=(ba h.objs.size).filter fun a=>(H a).isSome
def Be (h:Heap) (H:Hp):Heap:=PySem.W.hideAll h (trk h H)
theorem IR (h:Heap) (H:Hp):(Be h H).objs.size=h.objs.size:=PySem.W.hideAll_size _ _
theorem KY {h:Heap} {H:Hp} {b:Addr} {o:Obj} (e:h.get? b=some o) (n:H b=none):(Be h H).get? b=some o:=
 PySem.W.hideAll_get _ e fun hm=>by
  have q:(H b).isSome=true:=(av.mp hm).2;rw [n] at q; simp at q
theorem OP {h:Heap} {H:Hp} {b:Addr} {o:Obj} (e:(Be h H).get? b=some o):h.get? b=some o/\H b=none:=by
 have e':h.get? b=some o:=PySem.W.of_hideAll (trk h H) e;refine ⟨e',?_⟩;cases q:H b with
 | none=>rfl
 | some x=>
  have hm:b∈trk h H:=av.mpr ⟨ia.mpr (az e'),by simp [q]⟩;have z:(Be h H).get? b=none:=PySem.W.hideAll_none (trk h H) hm;rw [z] at e; cases e
def OQ (g h:Heap) (L:Addr):List (Addr×Obj):=(ba h.objs.size).filterMap fun a=>if a=L\/(g.get? a).isSome=true then none else (h.get? a).map fun o=>(a,o)
def rest (g h:Heap) (L d:Addr):List (Addr×Obj):=(OQ g h L).filter fun p=>decide (p.1≠d)
structure Mod (K:af) (mg:Str->Option Value) (base:Heap):Prop where
 kin:K.In base
 glob:base.Ns b8 mg
 blt:∃ mb,base.Ns builtinsNs mb/\∀ x:Str,x≠"__name__" -> mb x=mf x
 nolimit:base.NoLimit
structure Cx where
 prog:Program
 w:World
 K:af
 mg:Str->Option Value
 base:Heap
 A:Around
 N:List Str
 s₀:Shared
 H₀:Hp
 env:Env
 outer:List Env
 stack:List Env
 ex:List Addr
 fn:Str->Bool
 calm:Bool
 pn:List (Addr×Obj)
 xe:Value->Shared->Prop
def frs (l:List Env):List Addr:=l.filterMap (·.frame)
abbrev Cx.fs (X:Cx):List Addr:=frs X.outer
def Vis (sc:Scope) (x:Str):Prop:=sc.names.lookup x=some .local\/sc.names.lookup x=some .cell\/sc.names.lookup x=some .free
def Loc (sc:Scope) (x:Str):Prop:=sc.names.lookup x=some .local\/sc.names.lookup x=some .cell
def Look (env:Env) (h:Heap) (m:Str->Option Value) (x:Str) (u:Value):Prop:=
 (env.kindOf x=some .local/\m x=some u)\/((env.kindOf x=some .cell\/env.kindOf x=some .free)/\∃ c,env.cells.lookup x=some c/\h.IsCell c (some u))
structure Cx.Ok (X:Cx):Prop where
 mod:Mod X.K X.mg X.base
 kind:X.env.scope.kind=.function
 glob:X.env.globals=b8
 blt:X.env.builtins=builtinsNs
 above:X.s₀.heap.objs.size<=X.env.locals
 inj:∀ x y c,X.env.cells.lookup x=some c->X.env.cells.lookup y=some c->x=y
 has:∀ x,(X.env.kindOf x=some .cell\/X.env.kindOf x=some .free)->∃ c,X.env.cells.lookup x=some c
 cab:∀ x c,X.fn x=true->X.env.cells.lookup x=some c->X.s₀.heap.objs.size<=c
 hd:X.calm=true->X.A.handled=none
 frames:X.A.frames=some X.stack
 stk:X.stack=X.outer\/(X.stack=X.env :: X.outer/\X.env.frame=some X.env.locals)
 exf:∀ b∈X.ex,b≠X.env.locals/\∀ x c,X.env.cells.lookup x=some c->c≠b
 bs:∀ b o,X.base.get? b=some o->X.s₀.heap.get? b=some o/\X.H₀ b=none
 bsz:X.base.objs.size<=X.s₀.heap.objs.size
 noex:∀ b o,X.base.get? b=some o->b∉X.ex
 exfs:∀ b∈X.ex,b∉X.fs
 funs:X.s₀.heap.FunFrames X.base X.outer
 frf:∀ b∈X.fs,X.H₀ b=none
structure Inv (X:Cx) (pins:List (Addr×Obj)) (σ:List (Option V)) (H:Hp) (s:Shared):Prop where
 ok:X.Ok
 os:s.os=X.s₀.os
 bare:AllBare s.gens
 base:Un X.fs X.ex X.H₀ H X.s₀.heap s.heap
 loc:∃ m,s.heap.Ns X.env.locals m/\∀ (i:Nat) (x:Str) (v:V),X.N[i]?=some x->σ[i]?=some (some v)->Vis X.env.scope x->∃ u,RelV v u/\Look X.env s.heap m x u
 cell:∀ x c,X.env.cells.lookup x=some c->∃ v,s.heap.IsCell c v
 free:H X.env.locals=none
 freeC:∀ x c,X.env.cells.lookup x=some c->H c=none
 pin:∀ p∈X.pn++pins,s.heap.get? p.1=some p.2/\H p.1=none/\p.1≠X.env.locals/\p.1∉X.fs/\∀ v,p.2.data≠.cell v
 hok:HOk X.prog X.w H s.heap
 len:σ.length=X.N.length
section
variable {X:Cx} {pins:List (Addr×Obj)} {σ:List (Option V)} {H H':Hp} {s:Shared} {h':Heap}
theorem Cx.Ok.nofr (ok:X.Ok) {b:Addr} {o:Obj} (e:X.base.get? b=some o):b∉X.fs:=fun hb=>by
 have:=(ok.funs.mem hb).1;rw [e] at this; cases this
theorem Inv.bs (I:Inv X pins σ H s):∀ b o,X.base.get? b=some o->s.heap.get? b=some o/\H b=none:=fun b o e=>
 ⟨I.base.keep b o (I.ok.bs b o e).1 (I.ok.bs b o e).2 (I.ok.nofr e) (I.ok.noex b o e),I.base.free b o (I.ok.bs b o e).1 (I.ok.bs b o e).2 (I.ok.noex b o e)⟩
theorem Inv.bk (I:Inv X pins σ H s):∀ b o,X.base.get? b=some o->s.heap.get? b=some o:=fun b o e=>(I.bs b o e).1
theorem Inv.mod (I:Inv X pins σ H s):Mod X.K X.mg X.base:=I.ok.mod
theorem Inv.kIn (I:Inv X pins σ H s):X.K.In s.heap:=I.ok.mod.kin.keeps I.bk
theorem Inv.lt (I:Inv X pins σ H s):X.env.locals < s.heap.objs.size:=let ⟨_,hn,_⟩:=I.loc; hn.lt
theorem Inv.sz (I:Inv X pins σ H s):X.s₀.heap.objs.size<=s.heap.objs.size:=c4 I.ok.above (iy I.lt)
theorem Inv.nofs (I:Inv X pins σ H s) {a:Addr} (h:s.heap.objs.size<=a):a∉X.fs:=fun hb=>by
 obtain ⟨_,o,ho,_⟩:=I.ok.funs.mem hb;exact absurd (bp (az ho) (c4 I.sz h)) (fj _)
theorem Inv.cne (I:Inv X pins σ H s):∀ x c,X.env.cells.lookup x=some c->c≠X.env.locals:=fun x c e z=>by
 obtain ⟨v,o,ho,hd⟩:=I.cell x c e;obtain ⟨m,⟨o',es,ep,ho',hd',_⟩,_⟩:=I.loc;rw [z,ho'] at ho; cases ho; rw [hd'] at hd; cases hd
theorem Inv.funs (I:Inv X pins σ H s):s.heap.FunFrames X.base X.outer:=by
 have all:∀ (l:List Env),(∀ b∈frs l,b∈X.fs)->X.s₀.heap.FunFrames X.base l->s.heap.FunFrames X.base l:=by
  intro l
  induction l with
  | nil=>intro _ _; trivial
  | cons env r ih=>
   intro hs hl;obtain ⟨hk,⟨L,o,hf,hn,ho,hd⟩,hr⟩:=hl;have hL:L∈X.fs:=hs L (by unfold frs; rw [dj,hf]; exact aj);obtain ⟨sl,e⟩:=I.base.slot L o ho (I.ok.frf L hL) hL fun z=>I.ok.exfs L z hL;exact ⟨hk,⟨L,_,hf,hn,e,hd⟩,ih (fun b hb=>hs b (by unfold frs; rw [dj,hf]; exact ao _ hb)) hr⟩
 exact all X.outer (fun _ hb=>hb) I.ok.funs
theorem Inv.stack (I:Inv X pins σ H s):s.heap.FunFrames X.base X.stack:=by
 rcases I.ok.stk with e | ⟨e,hf⟩
 ·rw [e]; exact I.funs
 ·rw [e];obtain ⟨m,hn,_⟩:=I.loc;refine .cons (by rw [I.ok.kind]; decide) hf hn ?_ I.funs;exact Heap.get?_none_of_le (c4 I.ok.bsz I.ok.above)
theorem Inv.stkSub (I:Inv X pins σ H s):∀ b∈frs X.stack,b∈X.env.locals :: X.fs:=fun b hb=>by
 rcases I.ok.stk with e | ⟨e,hf⟩
 ·rw [e] at hb; exact ao _ hb
 ·rw [e] at hb;unfold frs at hb;rw [dj,hf] at hb;exact hb
theorem Inv.stkFree (I:Inv X pins σ H s):∀ b∈frs X.stack,H b=none:=fun b hb=>by
 rcases bc.mp (I.stkSub b hb) with e | hb
 ·rw [e]; exact I.free
 ·obtain ⟨_,o,ho,_⟩:=I.ok.funs.mem hb;exact I.base.free b o ho (I.ok.frf b hb) fun z=>I.ok.exfs b z hb
theorem Inv.step {g':Array GenState} {t':Nat} {d':Drawn} {ch:List Addr} (I:Inv X pins σ H s)
  (hch:∀ b∈ch,(b∈X.ex\/X.s₀.heap.objs.size<=b)/\b≠X.env.locals/\(∀ x c,X.env.cells.lookup x=some c->c≠b)/\∀ p∈X.pn++pins,p.1≠b)
  (keep:∀ b o,b≠X.env.locals->b∉X.fs->b∉ch->s.heap.get? b=some o->H b=none->h'.get? b=some o)
  (slot:∀ b o,b≠X.env.locals->b∈X.fs->b∉ch->s.heap.get? b=some o->H b=none->∃ sl,h'.get? b=some { o with slots:=sl }) (free:∀ b o,b∉ch->s.heap.get? b=some o->H b=none->H' b=none)
  (there:∀ b o,b∉ch->s.heap.get? b=some o->∃ o',h'.get? b=some o')
  (tups:∀ b xs,H b=some (.tup xs)->H' b=some (.tup xs)) (frzs:∀ b o u,H b=some (.frz o u)->H' b=some (.frz o u)) (tbls:∀ b ps,H b=some (.tbl ps)->∃ more,H' b=some (.tbl (ps++more)))
  (ns:∀ m,s.heap.Ns X.env.locals m->h'.Ns X.env.locals m) (hok:HOk X.prog X.w H' h') (hg:AllBare g'):
  Inv X pins σ H' { s with heap:=h',gens:=g',drawn:=d',toks:=t' }:=by
 have neL:∀ b o,X.s₀.heap.get? b=some o->b≠X.env.locals:=fun b o e=>a9 (bp (az e) I.ok.above);have neC:∀ b o,X.s₀.heap.get? b=some o->b∉X.ex->b∉ch:=fun b o e hx hb=>by
  rcases (hch b hb).1 with z | z
  ·exact hx z
  ·exact absurd (bp (az e) z) (fj _)
 have cellK:∀ x c,X.env.cells.lookup x=some c->∀ v,s.heap.IsCell c v->h'.IsCell c v:=fun x c e v ⟨o,ho,hd⟩=>by
  have nch:c∉ch:=fun z=>(hch c z).2.2.1 x c e rfl
  by_cases hc:c∈X.fs
  ·obtain ⟨sl,q⟩:=slot c o (I.cne x c e) hc nch ho (I.freeC x c e);exact ⟨_,q,hd⟩
  ·exact ⟨o,keep c o (I.cne x c e) hc nch ho (I.freeC x c e),hd⟩
 refine ⟨I.ok,I.os,hg,⟨fun b o e n hb hx=>?_,fun b o e n hb hx=>?_,fun b o e n hx=>?_,fun b o e hx=>?_,fun b xs e=>tups b xs (I.base.tups b xs e),fun b o xs e=>frzs b o xs (I.base.frzs b o xs e),fun b ps e=>?_⟩,?_,fun x c e=>?_,?_,fun x c e=>?_,fun p hp=>?_,hok,I.len⟩
 ·exact keep b o (neL b o e) hb (neC b o e hx) (I.base.keep b o e n hb hx) (I.base.free b o e n hx)
 ·obtain ⟨sl,e1⟩:=I.base.slot b o e n hb hx;obtain ⟨sl',e2⟩:=slot b _ (neL b o e) hb (neC b o e hx) e1 (I.base.free b o e n hx);exact ⟨sl',e2⟩
 ·obtain ⟨o',e1⟩:=I.base.there b o e hx;exact free b o' (neC b o e hx) e1 (I.base.free b o e n hx)
 ·obtain ⟨o',e1⟩:=I.base.there b o e hx;exact there b o' (neC b o e hx) e1
 ·obtain ⟨m1,e1⟩:=I.base.tbls b ps e;obtain ⟨m2,e2⟩:=tbls b _ e1;exact ⟨m1++m2,by rw [e2,Array.append_assoc]⟩
 ·obtain ⟨m,hn,hl⟩:=I.loc;refine ⟨m,ns m hn,fun i x v e1 e2 e3=>?_⟩;obtain ⟨u,r,l⟩:=hl i x v e1 e2 e3;refine ⟨u,r,?_⟩;rcases l with l | ⟨k,c,e,z⟩
  ·exact .inl l
  ·exact .inr ⟨k,c,e,cellK x c e _ z⟩
 ·obtain ⟨v,z⟩:=I.cell x c e;exact ⟨v,cellK x c e v z⟩
 ·obtain ⟨m,⟨o,_,_,ho,_⟩,_⟩:=I.loc;exact free _ o (fun z=>(hch _ z).2.1 rfl) ho I.free
 ·obtain ⟨v,o,ho,hd⟩:=I.cell x c e;exact free c o (fun z=>(hch c z).2.2.1 x c e rfl) ho (I.freeC x c e)
 ·obtain ⟨e,n,ne,nf,d⟩:=I.pin p hp;have nch:p.1∉ch:=fun z=>(hch p.1 z).2.2.2 p hp rfl;exact ⟨keep p.1 p.2 ne nf nch e n,free p.1 p.2 nch e n,ne,nf,d⟩
theorem Inv.un {t':Nat} (I:Inv X pins σ H s) (u:Un X.fs [] H H' s.heap h') (hok:HOk X.prog X.w H' h'):Inv X pins σ H' { s with heap:=h',toks:=t' }:=by
 obtain ⟨m,⟨o,es,ep,ho,r⟩,_⟩:=id I.loc;obtain ⟨sl,hL⟩:=u.any ho I.free (by simp);exact I.step (g':=s.gens) (d':=s.drawn) (ch:=[]) (fun _ z=>nomatch z) (fun b o _ hb _ e n=>u.keep b o e n hb (by simp)) (fun b o _ hb _ e n=>u.slot b o e n hb (by simp)) (fun b o _ e n=>u.free b o e n (by simp)) (fun b o _ e=>u.there b o e (by simp)) u.tups u.frzs u.tbls (fun m' hm=>by
  obtain ⟨o',es',ep',ho',r'⟩:=hm;rw [ho] at ho'; cases ho';exact ⟨_,es',ep',hL,r'⟩) hok I.bare
theorem Inv.call {g':Array GenState} {t':Nat} {d':Drawn} {ch:List Addr} (I:Inv X pins σ H s) (u:Un (frs X.stack) ch H H' s.heap h') (hok:HOk X.prog X.w H' h') (hg:AllBare g')
  (hch:∀ b∈ch,(b∈X.ex\/X.s₀.heap.objs.size<=b)/\b≠X.env.locals/\(∀ x c,X.env.cells.lookup x=some c->c≠b)/\∀ p∈X.pn++pins,p.1≠b):
  Inv X pins σ H' { s with heap:=h',gens:=g',drawn:=d',toks:=t' }:=by
 obtain ⟨m,⟨o,es,ep,ho,r⟩,_⟩:=id I.loc;obtain ⟨sl,hL⟩:=u.any ho I.free fun z=>(hch _ z).2.1 rfl;exact I.step (ch:=ch) hch (fun b o hL hb hc e n=>u.keep b o e n (fun z=>(bc.mp (I.stkSub b z)).elim hL hb) hc) (fun b o _ _ hc e n=>u.any e n hc) (fun b o hc e n=>u.free b o e n hc) (fun b o hc e=>u.there b o e hc) u.tups u.frzs u.tbls (fun m' hm=>by
  obtain ⟨o',es',ep',ho',r'⟩:=hm;rw [ho] at ho'; cases ho';exact ⟨_,es',ep',hL,r'⟩) hok hg
theorem Inv.turned {t':Nat} {it:Addr} (I:Inv X pins σ H s) (k:∀ b o,b≠it->s.heap.get? b=some o->h'.get? b=some o) (hn:H it=none) (hL:it≠X.env.locals)
  (h1:it∈X.ex\/X.s₀.heap.objs.size<=it) (h2:∀ x c,X.env.cells.lookup x=some c->c≠it) (h3:∀ p∈X.pn++pins,p.1≠it):Inv X pins σ H { s with heap:=h',toks:=t' }:=by
 have nit:∀ b u,H b=some u->b≠it:=fun b u e z=>by rw [z,hn] at e; cases e
 refine I.step (g':=s.gens) (d':=s.drawn) (ch:=[it]) (fun b hb=>?_) (fun b o _ _ hc e _=>k b o (fun z=>hc (by simp [z])) e) (fun b o _ _ hc e _=>⟨o.slots,k b o (fun z=>hc (by simp [z])) e⟩) (fun _ _ _ _ n=>n)
  (fun b o hc e=>⟨o,k b o (fun z=>hc (by simp [z])) e⟩) (fun _ _ e=>e) (fun _ _ _ e=>e) (fun b ps e=>⟨#[],by rw [e]; simp⟩) (fun m hm=>?_) (fun b u e=>?_) I.bare
 ·have e:b=it:=by simpa using hb
  subst e;exact ⟨h1,hL,h2,h3⟩
 ·obtain ⟨o,es,ep,ho,r⟩:=hm;exact ⟨o,es,ep,k _ o (j5 hL) ho,r⟩
 ·refine (I.hok b u e).stay (fun c v hc q=>k c v ?_ q) (fun _ q=>q) fun _ _ q=>q;rcases hc with z | z
  ·rw [z]; exact nit b u e
  ·exact nit c _ z
theorem Inv.tok (I:Inv X pins σ H s) (t:Nat):Inv X pins σ H { s with toks:=t }:=I.un (h':=s.heap) (t':=t) Un.refl I.hok
theorem Inv.kept {t':Nat} (I:Inv X pins σ H s) (k:∀ b u,s.heap.get? b=some u->h'.get? b=some u):Inv X pins σ H { s with heap:=h',toks:=t' }:=I.un (Un.kept k) (I.hok.kept k)
theorem Inv.laid {a:Addr} {o:HO} {t':Nat} (I:Inv X pins σ H s) (k:∀ b u,s.heap.get? b=some u->h'.get? b=some u) (hp:s.heap.objs.size<=a) (new:cP X.prog X.w (upd H a o) h' a o):
  Inv X pins σ (upd H a o) { s with heap:=h',toks:=t' }:=I.un (Un.laid k hp (I.hok.fresh hp)) (I.hok.laid k hp new)
theorem Inv.write {x e:Addr} {o:HO} {t':Nat} (I:Inv X pins σ H s) (mu:Mut (H x)) (he:e=x\/H e=some (.own x)) (k:∀ b u,b≠e->s.heap.get? b=some u->h'.get? b=some u) (heo:∃ u,h'.get? e=some u)
  (new:cP X.prog X.w (upd H x o) h' x o):Inv X pins σ (upd H x o) { s with heap:=h',toks:=t' }:=I.un (Un.write mu he k heo) (I.hok.write mu he k heo new)
theorem Inv.pins_of {pins':List (Addr×Obj)} (I:Inv X pins σ H s) (h:∀ p∈pins',s.heap.get? p.1=some p.2/\H p.1=none/\p.1≠X.env.locals/\p.1∉X.fs/\∀ v,p.2.data≠.cell v):Inv X pins' σ H s:=
 ⟨I.ok,I.os,I.bare,I.base,I.loc,I.cell,I.free,I.freeC,fun p hp=>(bj.mp hp).elim (fun z=>I.pin p (f7 _ z)) (h p),I.hok,I.len⟩
theorem D0 {N:List Str} (hN:N.Nodup) {i j:Nat} {x:Str} (a:N[i]?=some x) (b:N[j]?=some x):i=j:=by
 obtain ⟨h1,e1⟩:=ab.mp a;obtain ⟨h2,e2⟩:=ab.mp b;exact (List.getElem_inj hN).mp (e1.trans e2.symm)
theorem zZ {M:Model} {A:Around} {E:Value->Shared->Prop} {i:Nat} {x:Str} {v:V} {u:Value} {Q:Unit->Shared->Prop} (I:Inv X pins σ H s) (hN:X.N.Nodup) (hi:X.N[i]?=some x) (hx:Loc X.env.scope x) (r:RelV v u)
  (h:∀ s',Inv X pins (σ.set i (some v)) H s'->(∃ a,ie a s.heap s'.heap/\(a=X.env.locals\/X.env.cells.lookup x=some a))->Q () s') (hf:X.fn x=true\/X.env.scope.names.lookup x=some .local:=by first | exact .inl rfl | exact .inr rfl | assumption):wpAny M A (storeName X.env x u) Q E s:=by
 obtain ⟨m,hn,hl⟩:=id I.loc;have hcls:(X.env.scope.kind == .class || (X.env.scope.kind == .module && X.env.locals != X.env.globals))=false:=by rw [I.ok.kind]; rfl
 have hiσ:i < σ.length:=by rw [I.len]; exact (ab.mp hi).1
 have cne:=I.cne;have tracked:∀ {a:Addr} {h':Heap},(∃ o,s.heap.get? a=some o/\H a=none)->ie a s.heap h'->HOk X.prog X.w H h':=fun {a h'} ha hs b ob e=>by
  obtain ⟨_,_,hfree⟩:=ha;refine (I.hok b ob e).stay (fun c w' hc q=>(hs.2 c ?_).trans q) (fun _ q=>q) fun _ _ q=>q;rintro rfl;rcases hc with rfl | hc
  ·rw [hfree] at e; cases e
  ·rw [hfree] at hc; cases hc
 rcases hx with hk | hk
 ·refine wpAny_storeName_local hk hn (fun h' hn' hs=>?_) hcls;obtain ⟨oL,_,_,hoL,_⟩:=id hn;refine h _ ⟨I.ok,I.os,I.bare,⟨fun b o e n hb hx=>?_,fun b o e n hb hx=>?_,I.base.free,fun b o e hx=>?_,I.base.tups,I.base.frzs,I.base.tbls⟩,⟨_,hn',fun j y v' e1 e2 e3=>?_⟩,fun y c e=>?_,I.free,I.freeC,fun p hp=>?_,tracked ⟨oL,hoL,I.free⟩ hs,by simpa using I.len⟩ ⟨_,hs,.inl rfl⟩
  ·exact (hs.2 b (a9 (bp (az e) I.ok.above))).trans (I.base.keep b o e n hb hx)
  ·obtain ⟨sl,e1⟩:=I.base.slot b o e n hb hx;exact ⟨sl,(hs.2 b (a9 (bp (az e) I.ok.above))).trans e1⟩
  ·obtain ⟨o',e1⟩:=I.base.there b o e hx;exact ⟨o',(hs.2 b (a9 (bp (az e) I.ok.above))).trans e1⟩
  ·by_cases hj:j=i
   ·subst hj;rw [hi] at e1; cases e1;rw [gj hiσ] at e2;cases e2
    exact ⟨u,r,.inl ⟨hk,by simp⟩⟩
   ·rw [bf (j5 hj)] at e2;obtain ⟨u',r',q⟩:=hl j y v' e1 e2 e3;refine ⟨u',r',?_⟩;rcases q with ⟨k,e⟩ | ⟨k,c,e,z⟩
    ·refine .inl ⟨k,?_⟩;have:y≠x:=fun e=>hj (D0 hN e1 (e ▸ hi));simp [this,e]
    ·exact .inr ⟨k,c,e,z.sameBut hs (cne y c e)⟩
  ·obtain ⟨w',z⟩:=I.cell y c e;exact ⟨w',z.sameBut hs (cne y c e)⟩
  ·obtain ⟨e,n,ne,nf,d⟩:=I.pin p hp;exact ⟨(hs.2 p.1 ne).trans e,n,ne,nf,d⟩
 ·have hfn:X.fn x=true:=by
   rcases hf with z | z
   ·exact z
   ·rw [z] at hk; cases hk
  obtain ⟨c,hc⟩:=I.ok.has x (.inl hk);obtain ⟨w',z⟩:=I.cell x c hc;refine wpAny_storeName_cell I.ok.kind hk hc z (fun h' hc' hs=>?_);obtain ⟨oc,hoc,hocd⟩:=id z;refine h { s with heap:=h' } ⟨I.ok,I.os,I.bare,⟨fun b o e n hb hx=>?_,fun b o e n hb hx=>?_,I.base.free,fun b o e hx=>?_,I.base.tups,I.base.frzs,I.base.tbls⟩,⟨m,hn.sameBut hs (j5 (cne x c hc)),fun j y v' e1 e2 e3=>?_⟩,fun y c' e=>?_,I.free,I.freeC,fun p hp=>?_,tracked ⟨oc,hoc,I.freeC x c hc⟩ hs,by simpa using I.len⟩ ⟨c,hs,.inr hc⟩
  ·exact (hs.2 b (a9 (bp (az e) (I.ok.cab x c hfn hc)))).trans (I.base.keep b o e n hb hx)
  ·obtain ⟨sl,e1⟩:=I.base.slot b o e n hb hx;exact ⟨sl,(hs.2 b (a9 (bp (az e) (I.ok.cab x c hfn hc)))).trans e1⟩
  ·obtain ⟨o',e1⟩:=I.base.there b o e hx;exact ⟨o',(hs.2 b (a9 (bp (az e) (I.ok.cab x c hfn hc)))).trans e1⟩
  ·by_cases hj:j=i
   ·subst hj;rw [hi] at e1; cases e1;rw [gj hiσ] at e2;cases e2
    exact ⟨u,r,.inr ⟨.inl hk,c,hc,hc'⟩⟩
   ·rw [bf (j5 hj)] at e2;obtain ⟨u',r',q⟩:=hl j y v' e1 e2 e3;refine ⟨u',r',?_⟩;rcases q with q | ⟨k,c',e,z'⟩
    ·exact .inl q
    ·refine .inr ⟨k,c',e,z'.sameBut hs ?_⟩;rintro rfl;exact hj (D0 hN e1 (I.ok.inj _ _ _ e hc ▸ hi))
  ·by_cases hcc:c'=c
   ·subst hcc; exact ⟨_,hc'⟩
   ·obtain ⟨w2,z2⟩:=I.cell y c' e;exact ⟨w2,z2.sameBut hs hcc⟩
  ·obtain ⟨e,n,ne,nf,d⟩:=I.pin p hp;refine ⟨(hs.2 p.1 ?_).trans e,n,ne,nf,d⟩;intro q;rw [q,hoc] at e;have q':oc=p.2:=bh e;exact d w' (by rw [<- q']; exact hocd)
theorem D1 {M:Model} {A:Around} {E:Value->Shared->Prop} {i:Nat} {x:Str} {v:V} {u:Value} {Q:Unit->Shared->Prop} (I:Inv X pins σ H s) (hN:X.N.Nodup) (hi:X.N[i]?=some x) (hx:Loc X.env.scope x) (r:RelV v u)
  (h:∀ s',Inv X pins (σ.set i (some v)) H s'->Q () s') (hf:X.fn x=true\/X.env.scope.names.lookup x=some .local:=by first | exact .inl rfl | exact .inr rfl | assumption):wpAny M A (storeName X.env x u) Q E s:=
 zZ I hN hi hx r (fun s' I' _=>h s' I') hf
theorem Inv.call' {s':Shared} {ch:List Addr} (I:Inv X pins σ H s) (ho:s'.os=s.os) (u:Un (frs X.stack) ch H H' s.heap s'.heap) (hok:HOk X.prog X.w H' s'.heap) (hg:AllBare s'.gens)
  (hch:∀ b∈ch,(b∈X.ex\/X.s₀.heap.objs.size<=b)/\b≠X.env.locals/\(∀ x c,X.env.cells.lookup x=some c->c≠b)/\∀ p∈X.pn++pins,p.1≠b):Inv X pins σ H' s':=by
 obtain ⟨h',g',d',t',o'⟩:=s';have e:o'=s.os:=ho;subst e;exact I.call (g':=g') (t':=t') (d':=d') u hok hg hch
end
abbrev XK:=Value->Option Addr->Hp->Prop
abbrev St:=List (Option V)
abbrev VK:=V->Hp->Prop
abbrev TE:=St->Hp->VK->Prop
abbrev TT:=St->Hp->(Bool->Hp->Prop)->Prop
abbrev TA:=St->Hp->(List V->Hp->Prop)->Prop
structure Ends where
 nx:St->Hp->Prop
 rt:VK
 bk:St->Hp->Prop:=fun _ _=>False
 ct:St->Hp->Prop:=fun _ _=>False
abbrev TS:=Ends->St->Hp->Prop
def EP (X:Cx) (pins:List (Addr×Obj)) (σ:St) (Q:VK) (u:Value) (s':Shared):Prop:=∃ v H',Inv X pins σ H' s'/\RelV v u/\Q v H'
def TP (X:Cx) (pins:List (Addr×Obj)) (σ:St) (Q:Bool->Hp->Prop) (b:Bool) (s':Shared):Prop:=∃ H',Inv X pins σ H' s'/\Q b H'
def AP (X:Cx) (pins:List (Addr×Obj)) (σ:St) (Q:List V->Hp->Prop) (us:List Value) (s':Shared):Prop:=∃ vs H',Inv X pins σ H' s'/\aM vs us/\Q vs H'
def SP (X:Cx) (pins:List (Addr×Obj)) (D:Ends) (f:Flow) (s':Shared):Prop:=
 match f with
 | .next=>∃ σ' H',Inv X pins σ' H' s'/\D.nx σ' H'
 | .brk=>∃ σ' H',Inv X pins σ' H' s'/\D.bk σ' H'
 | .cont=>∃ σ' H',Inv X pins σ' H' s'/\D.ct σ' H'
 | .ret u=>∃ v σ' H',Inv X pins σ' H' s'/\RelV v u/\D.rt v H'
def PE (X:Cx) (e:Expr) (t:TE):Prop:=
 ∀ (pins:List (Addr×Obj)) (s:Shared) (σ:St) (H:Hp) (Q:VK),Inv X pins σ H s->t σ H Q->wpAny (model X.prog X.w) X.A (eval e X.env) (EP X pins σ Q) X.xe s
def PT (X:Cx) (e:Expr) (t:TT):Prop:=
 ∀ (pins:List (Addr×Obj)) (s:Shared) (σ:St) (H:Hp) (Q:Bool->Hp->Prop),Inv X pins σ H s->t σ H Q->wpAny (model X.prog X.w) X.A (isTrue e X.env (eval e X.env)) (TP X pins σ Q) X.xe s
def PW (X:Cx) (e:Expr) (t:TT):Prop:=
 ∀ (whole:Sem Value) (pins:List (Addr×Obj)) (s:Shared) (σ:St) (H:Hp) (Q:Bool->Hp->Prop),Inv X pins σ H s->t σ H Q->wpAny (model X.prog X.w) X.A (isTrue e X.env whole) (TP X pins σ Q) X.xe s
theorem PW.pt {X:Cx} {e:Expr} {t:TT} (h:PW X e t):PT X e t:=h _
def PA (X:Cx) (es:List Expr) (t:TA):Prop:=
 ∀ (pos:Pos) (pins:List (Addr×Obj)) (s:Shared) (σ:St) (H:Hp) (Q:List V->Hp->Prop),Inv X pins σ H s->t σ H Q->wpAny (model X.prog X.w) X.A (spliced (backTo pos (cf es X.env))) (AP X pins σ Q) X.xe s
def PS (X:Cx) (st:Stmt) (t:TS):Prop:=
 ∀ (pins:List (Addr×Obj)) (s:Shared) (σ:St) (H:Hp) (D:Ends),Inv X pins σ H s->t D σ H->wpAny (model X.prog X.w) X.A (exec st X.env) (SP X pins D) X.xe s
def PSs (X:Cx) (st:List Stmt) (t:TS):Prop:=
 ∀ (pins:List (Addr×Obj)) (s:Shared) (σ:St) (H:Hp) (D:Ends),Inv X pins σ H s->t D σ H->wpAny (model X.prog X.w) X.A (execs st X.env) (SP X pins D) X.xe s
theorem thn {α:Type} {t:Sem α} {Q Q':α->Shared->Prop} {M:Model} {A:Around} {E:Value->Shared->Prop} {s:Shared} (h:wpAny M A t Q E s) (hQ:∀ a s,Q a s->Q' a s):wpAny M A t Q' E s:=gx h hQ fun _ _ x=>x
section
variable {X:Cx}
def UZ (i:Nat):TE:=fun σ H Q=>∃ v,σ[i]?=some (some v)/\Q v H
def tC (v:V):TE:=fun _ H Q=>Q v H
theorem Ff {i:Nat} {x:Str} {pos:Pos} (hN:X.N[i]?=some x) (hv:Vis X.env.scope x) (hd:(x == ("__debug__" : Str))=false:=by decide) (hcd:(x == ("__classdict__" : Str))=false:=by decide):PE X (.Name x pos) (UZ i):=by
 intro pins s σ H Q I h;obtain ⟨v,e,h⟩:=h;obtain ⟨m,hn,hl⟩:=I.loc;obtain ⟨u,r,l⟩:=hl i x v hN e hv;have fin:EP X pins σ Q u s:=⟨v,H,I,r,h⟩;rcases l with ⟨hk,hm⟩ | ⟨hk,c,hc,hcell⟩
 ·exact wpAny_Name (wpAny_loadName_local I.ok.kind hk hn hm fin) hd
 ·rcases hk with hk | hk
  ·exact wpAny_Name (wpAny_loadName_cell I.ok.kind hk hc hcell fin) hd
  ·exact wpAny_Name (wpAny_loadName_free I.ok.kind hk hc hcell fin hcd) hd
theorem Sm {i j pos}:PE X (.Constant (.int i) j pos) (tC (.int i)):=fun _ _ _ H _ I h=>wpAny_Constant_int ⟨.int i,H,I.tok _,⟨_,rfl⟩,h⟩
theorem V0 {b j pos}:PE X (.Constant (.bool b) j pos) (tC (.bl b)):=fun _ _ _ H _ I h=>Constant_bool ⟨.bl b,H,I,rfl,h⟩
theorem Sn {j pos}:PE X (.Constant .none j pos) (tC .non):=fun _ _ _ H _ I h=>Constant_none ⟨.non,H,I,rfl,h⟩
theorem So {x j pos}:PE X (.Constant (.str x) j pos) (tC (.str x)):=fun _ _ _ H _ I h=>Calls.Constant_str ⟨.str x,H,I.tok _,⟨_,rfl⟩,h⟩
def Gl (X:Cx) (x:Str):Prop:=X.env.kindOf x=some .globalImplicit
theorem uW {E:Value->Shared->Prop} {pins:List (Addr×Obj)} {s:Shared} {σ:St} {H:Hp} {x:Str} {u:Value} {pos:Pos} {Q:Value->Shared->Prop} (I:Inv X pins σ H s) (hg:Gl X x) (hm:X.mg x=some u) (h:Q u s)
  (hd:(x == ("__debug__" : Str))=false:=by decide):wpAny (model X.prog X.w) X.A (eval (.Name x pos) X.env) Q E s:=
 Calls.Name_function_global I.ok.kind hg (Calls.loadGlobal_global (by rw [I.ok.glob]; exact I.mod.glob.keeps I.bk) hm h) hd
theorem rK {E:Value->Shared->Prop} {pins:List (Addr×Obj)} {s:Shared} {σ:St} {H:Hp} {x:Str} {u:Value} {pos:Pos} {Q:Value->Shared->Prop} (I:Inv X pins σ H s) (hg:Gl X x) (hm:X.mg x=none) (hv:mf x=some u) (h:Q u s)
  (hn:x≠"__name__" := by decide) (hd:(x == ("__debug__" : Str))=false:=by decide):wpAny (model X.prog X.w) X.A (eval (.Name x pos) X.env) Q E s:=by
 obtain ⟨mb,h1,h2⟩:=I.mod.blt;exact Calls.Name_function_global I.ok.kind hg (Calls.loadGlobal_builtin (by rw [I.ok.glob]; exact I.mod.glob.keeps I.bk) hm (by rw [I.ok.blt]; exact h1.keeps I.bk) ((h2 x hn).trans hv) h) hd
variable {a b:Expr} {ta tb:TE} {pos:Pos}
variable {tA tB':TT} {rest:List Expr}
def X9 (t u:TT):TT:=fun σ H Q=>t σ H fun c H1=>if c=true then u σ H1 Q else Q false H1
def tOr (t u:TT):TT:=fun σ H Q=>t σ H fun c H1=>if c=true then Q true H1 else u σ H1 Q
def X' (t:TT):TT:=fun σ H Q=>t σ H fun c H1=>Q (!c) H1
theorem OR (ha:PT X a tA):PW X (.BoolOp .And [a] pos) tA:=by
 intro wh pins s σ H Q I h;refine isTrue_and (thn (ha pins s σ H Q I h) fun c s1 e=>?_);cases c with
 | true=>exact isTrue_and_nil e
 | false=>exact e
theorem Sq (ha:PT X a tA):PW X (.BoolOp .Or [a] pos) tA:=by
 intro wh pins s σ H Q I h;refine isTrue_or (thn (ha pins s σ H Q I h) fun c s1 e=>?_);cases c with
 | false=>exact isTrue_or_nil e
 | true=>exact e
theorem Sr (ha:PT X a tA) (hb:PW X (.BoolOp .And (b :: rest) pos) tB'):PW X (.BoolOp .And (a :: b :: rest) pos) (X9 tA tB'):=by
 intro wh pins s σ H Q I h;refine isTrue_and (thn (ha pins s σ H _ I h) fun c s1 ⟨H1,I1,q1⟩=>?_);cases c with
 | true=>exact hb wh pins s1 σ H1 Q I1 q1
 | false=>exact ⟨H1,I1,q1⟩
theorem V1 (ha:PT X a tA) (hb:PW X (.BoolOp .Or (b :: rest) pos) tB'):PW X (.BoolOp .Or (a :: b :: rest) pos) (tOr tA tB'):=by
 intro wh pins s σ H Q I h;refine isTrue_or (thn (ha pins s σ H _ I h) fun c s1 ⟨H1,I1,q1⟩=>?_);cases c with
 | true=>exact ⟨H1,I1,q1⟩
 | false=>exact hb wh pins s1 σ H1 Q I1 q1
theorem Su (ha:PT X a tA):PT X (.UnaryOp .Not a pos) (X' tA):=by
 intro pins s σ H Q I h;exact isTrue_not (ha pins s σ H (fun c H1=>Q (!c) H1) I h)
def tIf (t:TT) (ta tb:TE):TE:=fun σ H Q=>t σ H fun c H1=>if c=true then ta σ H1 Q else tb σ H1 Q
theorem KZ {c:Expr} (hc:PT X c tA) (ha:PE X a ta) (hb:PE X b tb):PE X (.IfExp c a b pos) (tIf tA ta tb):=by
 intro pins s σ H Q I h;refine wpAny_IfExp (thn (hc pins s σ H _ I h) fun d s1 ⟨H1,I1,q1⟩=>?_);cases d with
 | true=>exact ha pins s1 σ H1 Q I1 q1
 | false=>exact hb pins s1 σ H1 Q I1 q1
end
def SqL (K:af) (H:Hp) (a:Addr) (xs:List V):Prop:=
 Rd H a (.lst xs)\/
  ∃ (o:Obj) (its:Array Value) (n:Nat),K.lookup a=some o/\o.cls=.type "list" /\ o.dict=none/\o.data=.seq its n/\its.size<=aw/\aM xs its.toList
def SqT (K:af) (H:Hp) (a:Addr) (xs:List V):Prop:=
 Rd H a (.tup xs)\/
  ∃ (o:Obj) (its:Array Value) (n:Nat),K.lookup a=some o/\o.cls=.type "tuple" /\ o.data=.seq its n/\its.size<=aw/\aM xs its.toList/\o.dict=none
def Xa:Value->Option V
 | .none=>some .non
 | .bool b=>some (.bl b)
 | .int i _=>some (.int i)
 | .str x _=>some (.str x)
 | .bytes b _=>some (.byt b)
 | .float b _=>some (.flt b)
 | .ref a=>some (.ref a)
 | .type n=>some (.ty n)
 | _=>none
theorem RelV.abs {x:V} {u:Value} (r:RelV x u):Xa u=some x:=by
 cases x with
 | non=>cases r; rfl
 | bl _=>cases r; rfl
 | int _=>obtain ⟨t,rfl⟩:=r; rfl
 | str _=>obtain ⟨t,rfl⟩:=r; rfl
 | byt _=>obtain ⟨t,rfl⟩:=r; rfl
 | flt _=>obtain ⟨t,rfl⟩:=r; rfl
 | ref _=>cases r; rfl
 | ty _=>cases r; rfl
theorem RelV.inj {x y:V} {u:Value} (r:RelV x u) (q:RelV y u):x=y:=bh (r.abs.symm.trans q.abs)
theorem aM.inj:∀ {xs ys:List V} {us:List Value},aM xs us->aM ys us->xs=ys
 | _,_,_,.nil,.nil=>rfl
 | _,_,_,.cons r t,.cons r' t'=>by rw [r.inj r',aM.inj t t']
section
variable {X:Cx} {pins:List (Addr×Obj)} {σ:St} {H:Hp} {s:Shared} {a:Addr} {xs ys:List V}
theorem SqL.of {K:af} (h:H a=some (.lst xs)):SqL K H a xs:=.inl (.inl h)
theorem SqT.of {K:af} (h:H a=some (.tup xs)):SqT K H a xs:=.inl (.inl h)
theorem Inv.list (I:Inv X pins σ H s) (h:SqL X.K H a xs):∃ its:List Value,aM xs its/\PlainL s.heap a its.toArray/\xs.length<=aw:=by
 rcases h with h | ⟨o,its,n,hk,hc,hd,hs,hz,r⟩
 ·obtain ⟨z,its,n,r,e⟩:=h.ok I.hok;exact ⟨its,r,⟨_,n,e,rfl,rfl,rfl⟩,z⟩
 ·refine ⟨its.toList,r,⟨o,n,I.kIn a o hk,hc,hd,by simpa using hs⟩,?_⟩
  have e:=r.length;simp only [dz] at e;omega
theorem Inv.tuple (I:Inv X pins σ H s) (h:SqT X.K H a xs):∃ its:List Value,aM xs its/\IsTup s.heap a its.toArray/\xs.length<=aw:=by
 rcases h with h | ⟨o,its,n,hk,hc,hs,hz,r,_⟩
 ·obtain ⟨z,its,r,p⟩:=h.ok I.hok;exact ⟨its,r,p.is,z⟩
 ·refine ⟨its.toList,r,⟨o,I.kIn a o hk,hc,n,by simpa using hs⟩,?_⟩
  have e:=r.length;simp only [dz] at e;omega
theorem Inv.list_inj (I:Inv X pins σ H s) (h:SqL X.K H a xs) (h':SqL X.K H a ys):xs=ys:=by
 obtain ⟨its,r,⟨o,n,e,_,_,d⟩,_⟩:=I.list h;obtain ⟨its',r',⟨o',n',e',_,_,d'⟩,_⟩:=I.list h';rw [e] at e'; cases e';rw [d] at d';injection d' with d1 _;have:its=its':=by simpa using congrArg Array.toList d1
 subst this;exact r.inj r'
theorem Inv.tuple_inj (I:Inv X pins σ H s) (h:SqT X.K H a xs) (h':SqT X.K H a ys):xs=ys:=by
 obtain ⟨its,r,⟨o,e,_,n,d⟩,_⟩:=I.tuple h;obtain ⟨its',r',⟨o',e',_,n',d'⟩,_⟩:=I.tuple h';rw [e] at e'; cases e';rw [d] at d';injection d' with d1 _;have:its=its':=by simpa using congrArg Array.toList d1
 subst this;exact r.inj r'
end
abbrev Cx.wish (X:Cx) (E:Value->Shared->Prop):Cx:={ X with xe:=E }
abbrev Cx.nox (X:Cx):Cx:=X.wish fun _ _=>False
theorem Cx.Ok.wish {X:Cx} (ok:X.Ok) (E:Value->Shared->Prop):(X.wish E).Ok:=
 ⟨ok.mod,ok.kind,ok.glob,ok.blt,ok.above,ok.inj,ok.has,ok.cab,ok.hd,ok.frames,ok.stk,ok.exf,ok.bs,ok.bsz,ok.noex,ok.exfs,ok.funs,ok.frf⟩
theorem Cx.Ok.unwish {X:Cx} {E:Value->Shared->Prop} (ok:(X.wish E).Ok):X.Ok:=
 ⟨ok.mod,ok.kind,ok.glob,ok.blt,ok.above,ok.inj,ok.has,ok.cab,ok.hd,ok.frames,ok.stk,ok.exf,ok.bs,ok.bsz,ok.noex,ok.exfs,ok.funs,ok.frf⟩
section
variable {X:Cx} {pins:List (Addr×Obj)} {σ:St} {H:Hp} {s:Shared} {E:Value->Shared->Prop}
theorem Inv.wish (I:Inv X pins σ H s) (E:Value->Shared->Prop):Inv (X.wish E) pins σ H s:=⟨I.ok.wish E,I.os,I.bare,I.base,I.loc,I.cell,I.free,I.freeC,I.pin,I.hok,I.len⟩
theorem Inv.unwish (I:Inv (X.wish E) pins σ H s):Inv X pins σ H s:=⟨I.ok.unwish,I.os,I.bare,I.base,I.loc,I.cell,I.free,I.freeC,I.pin,I.hok,I.len⟩
theorem SP.unwish {D:Ends} {f:Flow} {s':Shared} (h:SP (X.wish E) pins D f s'):SP X pins D f s':=by
 cases f with
 | next=>obtain ⟨σ',H',I,q⟩:=h; exact ⟨σ',H',I.unwish,q⟩
 | brk=>obtain ⟨σ',H',I,q⟩:=h; exact ⟨σ',H',I.unwish,q⟩
 | cont=>obtain ⟨σ',H',I,q⟩:=h; exact ⟨σ',H',I.unwish,q⟩
 | ret u=>obtain ⟨v,σ',H',I,r,q⟩:=h; exact ⟨v,σ',H',I.unwish,r,q⟩
theorem PSs.nox {st:List Stmt} {t:TS} (h:PSs X.nox st t):PSs X st t:=fun pins s σ H D I hw=>
 gx (h pins s σ H D (I.wish _) hw) (fun _ _ q=>q.unwish) fun _ _ z=>gz z
end
section
variable {X:Cx} {st:Stmt} {rest:List Stmt} {t u:TS} {e:Expr} {te:TE} {pos:Pos}
def V2:TS:=fun D σ H=>D.nx σ H
def Xb (t u:TS):TS:=fun D σ H=>t { D with nx:=u D } σ H
theorem OS:PSs X [] V2:=fun _ _ σ H _ I h=>wpAny_execs_nil ⟨σ,H,I,h⟩
theorem L0 (h1:PS X st t) (h2:PSs X rest u):PSs X (st :: rest) (Xb t u):=by
 intro pins s σ H D I h;refine wpAny_execs_cons (thn (h1 pins s σ H { D with nx:=u D } I h) fun f s1 q=>?_);cases f with
 | next=>
  obtain ⟨σ',H',I',q⟩:=q;exact h2 pins s1 σ' H' D I' q
 | ret v=>exact q
 | brk=>exact q
 | cont=>exact q
theorem OT (h1:PS X st t):PSs X [st] t:=by
 intro pins s σ H D I h;refine wpAny_execs_cons (thn (h1 pins s σ H D I h) fun f s1 q=>?_);cases f with
 | next=>exact wpAny_execs_nil q
 | ret v=>exact q
 | brk=>exact q
 | cont=>exact q
def V3:TS:=fun D σ H=>D.ct σ H
theorem D2:PS X (.Continue pos) V3:=fun _ _ σ H _ I h=>wpAny_Continue ⟨σ,H,I,h⟩
theorem Inv.quiet {pins:List (Addr×Obj)} {σ:St} {H:Hp} {s:Shared} (I:Inv X pins σ H s):interactive X.env=false:=by simp [interactive,I.ok.kind]
def V4 (te:TE):TS:=fun D σ H=>te σ H fun _ H1=>D.nx σ H1
theorem OU (he:PE X e te) (hs:swapsWith e none pos.line X.env=pure false:=by rfl):PS X (.Expr e pos) (V4 te):=by
 intro pins s σ H D I h;exact wpAny_Expr_any (thn (he pins s σ H _ I h) fun v s1 ⟨x,H1,I1,r1,q1⟩=>⟨σ,H1,I1,q1⟩) I.quiet hs
def Xc (te:TE):TS:=fun D σ H=>te σ H D.rt
theorem Sv (he:PE X e te):PS X (.Return (some e) pos) (Xc te):=by
 intro pins s σ H D I h;exact wpAny_Return_some (thn (he pins s σ H _ I h) fun v s1 ⟨x,H1,I1,r1,q1⟩=>⟨x,σ,H1,I1,r1,q1⟩)
def Xd (c:TT) (t u:TS):TS:=fun D σ H=>c σ H fun b H1=>if b=true then t D σ H1 else u D σ H1
theorem V5 {c:Expr} {a b:List Stmt} {tc:TT} (hc:PT X c tc) (ha:PSs X a t) (hb:PSs X b u):PS X (.If c a b pos) (Xd tc t u):=by
 intro pins s σ H D I h;refine wpAny_If (thn (hc pins s σ H _ I h) fun d s1 ⟨H1,I1,q1⟩=>?_);cases d with
 | true=>exact ha pins s1 σ H1 D I1 q1
 | false=>exact hb pins s1 σ H1 D I1 q1
end
abbrev TG:=V->St->Hp->(St->Hp->Prop)->Prop
abbrev TGs:=List V->St->Hp->(St->Hp->Prop)->Prop
def PG (X:Cx) (target:Expr) (t:TG):Prop:=
 ∀ (pins:List (Addr×Obj)) (s:Shared) (σ:St) (H:Hp) (v:V) (u:Value) (Q:St->Hp->Prop),Inv X pins σ H s->RelV v u->t v σ H Q->
  wpAny (model X.prog X.w) X.A (assign target X.env u) (fun _ s'=>∃ σ' H',Inv X pins σ' H' s'/\Q σ' H') X.xe s
def PGs (X:Cx) (ts:List Expr) (t:TGs):Prop:=
 ∀ (pins:List (Addr×Obj)) (s:Shared) (σ:St) (H:Hp) (vs:List V) (us:List Value) (Q:St->Hp->Prop),Inv X pins σ H s->aM vs us->t vs σ H Q->
  wpAny (model X.prog X.w) X.A (assignInOrder ((i9 ts X.env).map (·.2)) us) (fun _ s'=>∃ σ' H',Inv X pins σ' H' s'/\Q σ' H') X.xe s
abbrev Xe:=V->V->V->Hp->(Hp->Prop)->Prop
def Xf (X:Cx) (t:Xe):Prop:=
 ∀ (pins:List (Addr×Obj)) (s:Shared) (σ:St) (H:Hp) (o i v:V) (ov iv u:Value) (Q:Hp->Prop),Inv X pins σ H s->RelV o ov->RelV i iv->RelV v u->t o i v H Q->
  wpAny (model X.prog X.w) X.A (setItem ov iv u) (fun _ s'=>∃ H',Inv X pins σ H' s'/\Q H') X.xe s
section
variable {X:Cx} {pos:Pos}
def L1 (i:Nat):TG:=fun v σ H Q=>Q (σ.set i (some v)) H
theorem OV {i:Nat} {x:Str} (hN:X.N.Nodup) (hi:X.N[i]?=some x) (hx:Loc X.env.scope x) (hf:X.fn x=true\/X.env.scope.names.lookup x=some .local:=by first | exact .inl rfl | exact .inr rfl | assumption):PG X (.Name x pos) (L1 i):=by
 intro pins s σ H v u Q I r h;exact wpAny_assign_Name (D1 I hN hi hx r (fun s' I'=>⟨_,H,I',h⟩) hf)
def Xg:TGs:=fun vs σ H Q=>vs=[]/\Q σ H
def V6 (t:TG) (u:TGs):TGs:=fun vs σ H Q=>∃ v r,vs=v :: r/\t v σ H fun σ' H'=>u r σ' H' Q
theorem OW:PGs X [] Xg:=by
 intro pins s σ H vs us Q I r h;obtain ⟨e,h⟩:=h;subst e;cases r
 exact assignInOrder_nil ⟨σ,H,I,h⟩
theorem L3 {e:Expr} {es:List Expr} {t:TG} {u:TGs} (h1:PG X e t) (h2:PGs X es u)
  (hs:(i9 (e :: es) X.env).map (·.2)=assign e X.env :: (i9 es X.env).map (·.2):=by rfl):PGs X (e :: es) (V6 t u):=by
 intro pins s σ H vs us Q I r h;obtain ⟨v,vr,e1,h⟩:=h;subst e1;cases r with
 | cons r rr=>
  rw [hs];refine assignInOrder_cons (thn (h1 pins s σ H _ _ _ I r h) fun _ s1 ⟨σ1,H1,I1,q1⟩=>?_);exact h2 pins s1 σ1 H1 _ _ Q I1 rr q1
def V7 (K:af) (n:Nat) (t:TGs):TG:=fun v σ H Q=>∃ a xs,v=.ref a/\SqT K H a xs/\xs.length=n/\t xs σ H Q
theorem Sw {es:List Expr} {k:Nat} {t:TGs} {n:Nat} (hc:X.calm=true) (h:PGs X es t)
  (hn:(i9 es X.env).length=n:=by rfl) (hst:(i9 es X.env).findIdx? (·.1)=none:=by rfl):PG X (.Tuple es k pos) (V7 X.K n t):=by
 intro pins s σ H v u Q I r hw;obtain ⟨a,xs,e1,hq,hl,hw⟩:=hw;subst e1;cases r
 obtain ⟨its,rv,ht,hz⟩:=I.tuple hq;refine assign_Tuple_tuple (I.ok.hd hc) ht (by simp [hn,<- hl,rv.length]) hst fun h' hx=>?_;have I1:Inv X pins σ H { s with heap:=h' }:=I.kept (t':=s.toks) fun b o e=>hx b o (a9 (az e)) e;exact h pins _ σ H xs _ Q I1 (by simpa using rv) hw
def Sx (te:TE) (g:TG):TS:=fun D σ H=>te σ H fun x H1=>g x σ H1 D.nx
theorem Sy {tg e:Expr} {te:TE} {g:TG} (he:PE X e te) (hg:PG X tg g) (hs:swapsWithSole [tg] e pos.line X.env=pure false:=by rfl) (hw:swappedStores [tg] e X.env=pure none:=by rfl)
  (h1:(i9 [tg] X.env).map (·.2)=[assign tg X.env]:=by rfl):PS X (.Assign [tg] e pos) (Sx te g):=by
 intro pins s σ H D I h;refine wpAny_Assign_stores (thn (he pins s σ H _ I h) fun v s1 hz=>?_) hs hw;obtain ⟨x,H1,I1,r1,q1⟩:=hz;rw [h1];exact thn (hg pins s1 σ H1 x v _ I1 r1 q1) fun _ s2 q=>q
theorem Sz {i:Nat} {x:Str} {e:Expr} {te:TE} {pos':Pos} (hN:X.N.Nodup) (hi:X.N[i]?=some x) (hx:Loc X.env.scope x) (he:PE X e te) (hs:swapsWith e (some (.Name x pos')) pos.line X.env=pure false:=by rfl) (hf:X.fn x=true\/X.env.scope.names.lookup x=some .local:=by first | exact .inl rfl | exact .inr rfl | assumption):
  PS X (.Assign [.Name x pos'] e pos) (Sx te (L1 i)):=by
 intro pins s σ H D I h;refine wpAny_Assign_Name (thn (he pins s σ H _ I h) fun v s1 hz=>?_) hs;obtain ⟨y,H1,I1,r1,q1⟩:=hz;exact D1 I1 hN hi hx r1 (fun s2 I2=>⟨_,H1,I2,q1⟩) hf
end
structure It where
 go:Nat->Hp->Prop
 yld:Nat->Hp->V->Hp->Prop
 stop:Nat->Hp->Prop
def D3 (X:Cx) (pins:List (Addr×Obj)) (H:Hp) (b:Addr):Prop:=
 H b=none/\b≠X.env.locals/\b∉X.fs/\(b∈X.ex\/X.s₀.heap.objs.size<=b)/\(∀ x c,X.env.cells.lookup x=some c->c≠b)/\∀ p∈X.pn++pins,p.1≠b
theorem Inv.fpOk {X:Cx} {pins:List (Addr×Obj)} {σ:St} {H H':Hp} {s:Shared} {b:Addr} (I:Inv X pins σ H s) (hb:s.heap.objs.size<=b) (hn:H' b=none):D3 X pins H' b:=by
 refine ⟨hn,Nat.ne_of_gt (bp I.lt hb),I.nofs hb,.inr (c4 I.sz hb),fun x c e z=>?_,fun p hp z=>?_⟩
 ·obtain ⟨v,q⟩:=I.cell x c e;exact absurd (bp q.lt (by rw [z]; exact hb)) (fj _)
 ·exact absurd (bp (az (I.pin p hp).1) (by rw [z]; exact hb)) (fj _)
structure Turn (P:Program) (w:World) (K:af) (tg:Expr) (J:It) (fp:List Addr) (it:Addr) (tn:Nat->Heap->Prop):Prop where
 mem:it∈fp
 obj:∀ i h,tn i h->∀ b∈fp,∃ o,h.get? b=some o/\∀ v,o.data≠.cell v
 keep:∀ i h h',tn i h->(∀ b∈fp,∀ o,h.get? b=some o->h'.get? b=some o)->tn i h'
 item:∀ (X:Cx),X.prog=P->X.w=w->X.K=K->X.calm=true->∀ (i:Nat) (pins:List (Addr×Obj)) (s:Shared) (σ:St) (H:Hp) (E:Value->Shared->Prop),Inv X pins σ H s->(∀ b∈fp,D3 X pins H b)->tn i s.heap->J.go i H->
  wpAny (model P w) X.A (pyNext (.ref it)) (fun r s1=>∃ u,r=some u/\
   wpAny (model P w) X.A (letOwnedTupleGo tg (.ref it) u) (fun _ s2=>∃ x H',Inv X pins σ H' s2/\RelV x u/\J.yld i H x H'/\tn (i+1) s2.heap/\∀ b∈fp,H' b=none) E s1) E s
 done:∀ (X:Cx),X.prog=P->X.w=w->X.K=K->X.calm=true->∀ (i:Nat) (pins:List (Addr×Obj)) (s:Shared) (σ:St) (H:Hp) (E:Value->Shared->Prop),Inv X pins σ H s->(∀ b∈fp,D3 X pins H b)->tn i s.heap->J.stop i H->
  wpAny (model P w) X.A (pyNext (.ref it)) (fun r s1=>r=none/\Inv X pins σ H s1) E s
 self:∀ (A:Around) (i:Nat) (s:Shared) (Q:Value->Shared->Prop) (E:Value->Shared->Prop),tn i s.heap->Q (.ref it) s->wpAny (model P w) A (pyIter (.ref it)) Q E s
abbrev TI:=St->Hp->(It->Hp->Prop)->Prop
def PIE (X:Cx) (pins:List (Addr×Obj)) (σ:St) (tg:Expr) (R:It->Hp->Prop) (itv:Value) (s2:Shared):Prop:=
 ∃ (it:Addr) (fp:List Addr) (tn:Nat->Heap->Prop) (J:It) (H':Hp),itv=.ref it/\Inv X pins σ H' s2/\Turn X.prog X.w X.K tg J fp it tn/\tn 0 s2.heap/\(∀ b∈fp,D3 X pins H' b)/\R J H'
def PI (X:Cx) (tg iter:Expr) (wi:TI):Prop:=
 ∀ (pins:List (Addr×Obj)) (s:Shared) (σ:St) (H:Hp) (R:It->Hp->Prop),Inv X pins σ H s->wi σ H R->
  wpAny (model X.prog X.w) X.A (eval iter X.env) (fun v s1=>wpAny (model X.prog X.w) X.A (pyIter v) (PIE X pins σ tg R) X.xe s1) X.xe s
theorem L4 {M:Model} {A:Around} {E:Value->Shared->Prop} {s:Shared} {tg:Expr} {it:Addr} {u:Value} {o:Obj} {n:String} {vs:Array Value} {Q:Unit->Shared->Prop} (ho:s.heap.get? it=some o) (hc:o.cls=.type n) (hd:o.data=.fields vs)
  (hn:["enumerate","zip","dict_itemiterator","dict_reverseitemiterator","odict_iterator","itertools.zip_longest","itertools.pairwise"].contains n=false) (hQ:Q () s):wpAny M A (letOwnedTupleGo tg (.ref it) u) Q E s:=by
 unfold letOwnedTupleGo;cases tg <;> first
  | exact ag hQ
  | (cases u <;> first
    | exact ag hQ
    | (refine aa (wpAny_load ho ?_)
       rw [hc,hd]
       show wpAny M A (if (["enumerate","zip","dict_itemiterator","dict_reverseitemiterator","odict_iterator","itertools.zip_longest","itertools.pairwise"].contains n && vs[0]? == some (rawInt _))=true then _ else _) Q E s
       rw [if_neg (by intro h; rw [hn,Bool.false_and] at h; cases h)];exact ag hQ))
def Itl (K:af) (a:Addr):It:=
 ⟨fun i H=>∃ xs x,SqL K H a xs/\xs[i]?=some x,fun i H x H'=>H'=H/\∀ xs,SqL K H a xs->xs[i]?=some x,fun i H=>∃ xs,SqL K H a xs/\xs.length<=i⟩
def Itt (K:af) (a:Addr):It:=
 ⟨fun i H=>∃ xs x,SqT K H a xs/\xs[i]?=some x,fun i H x H'=>H'=H/\∀ xs,SqT K H a xs->xs[i]?=some x,fun i H=>∃ xs,SqT K H a xs/\xs.length<=i⟩
def Itr (lo:Int) (n:Nat):It:=⟨fun i _=>i < n,fun i H x H'=>H'=H/\x=.int (lo+i),fun i _=>n<=i⟩
theorem A0 {P:Program} {w:World} {K:af} {tg:Expr} (a it:Addr):Turn P w K tg (Itl K a) [it] it (fun i h=>h.IsListIter it a i) where
 mem:=by simp
 obj:=fun i h st b hb=>by
  have e:b=it:=by simpa using hb
  subst e;obtain ⟨o,e,c,d⟩:=st;exact ⟨o,e,fun v z=>by rw [d] at z; cases z⟩
 keep:=fun i h h' st k=>st.at fun o e=>k it (by simp) o e
 item:=by
  intro X hP hw hK hc i pins s σ H E I hf st hg;subst hP hw hK;obtain ⟨xs,x,hq,hx⟩:=hg;obtain ⟨its,rv,p,hz⟩:=I.list hq;obtain ⟨u,hu,ru⟩:=rv.get hx;obtain ⟨f0,f1,f2,f3,f4,f5⟩:=hf it (by simp);refine wpAny_pyNext_list_item st p.isList (x:=u) (by simpa using hu) fun h' st' sb=>?_
  have I1:Inv X pins σ H { s with heap:=h' }:=I.turned (t':=s.toks) (fun b o hb e=>(sb.2 b hb).trans e) f0 f1 f3 f4 f5;obtain ⟨o,e,c,d⟩:=id st';exact ⟨u,rfl,L4 (s:={ s with heap:=h' }) e c d (by decide) ⟨x,H,I1,ru,⟨rfl,fun ys hy=>by rw [I.list_inj hy hq]; exact hx⟩,st',fun b hb=>(hf b hb).1⟩⟩
 done:=by
  intro X hP hw hK hc i pins s σ H E I hf st hg;subst hP hw hK;obtain ⟨xs,hq,hx⟩:=hg;obtain ⟨its,rv,p,hz⟩:=I.list hq;obtain ⟨f0,f1,f2,f3,f4,f5⟩:=hf it (by simp);have hl:=rv.length;exact wpAny_pyNext_list_end (I.ok.hd hc) st p.isList (by simp; omega) fun h' eb=>⟨rfl,I.turned (t':=s.toks) (fun b o hb e=>eb b o hb e) f0 f1 f3 f4 f5⟩
 self:=fun _ _ _ _ _ st h=>wpAny_pyIter_listiter st h
theorem Fg {P:Program} {w:World} {K:af} {tg:Expr} (a it:Addr):Turn P w K tg (Itt K a) [it] it (fun i h=>h.IsTupleIter it a i) where
 mem:=by simp
 obj:=fun i h st b hb=>by
  have e:b=it:=by simpa using hb
  subst e;obtain ⟨o,e,c,d⟩:=st;exact ⟨o,e,fun v z=>by rw [d] at z; cases z⟩
 keep:=fun i h h' st k=>st.at fun o e=>k it (by simp) o e
 item:=by
  intro X hP hw hK hc i pins s σ H E I hf st hg;subst hP hw hK;obtain ⟨xs,x,hq,hx⟩:=hg;obtain ⟨its,rv,p,hz⟩:=I.tuple hq;obtain ⟨u,hu,ru⟩:=rv.get hx;obtain ⟨f0,f1,f2,f3,f4,f5⟩:=hf it (by simp);refine wpAny_pyNext_tuple_item st (show s.heap.IsTuple a its.toArray from p) (x:=u) (by simpa using hu) fun h' st' sb=>?_
  have I1:Inv X pins σ H { s with heap:=h' }:=I.turned (t':=s.toks) (fun b o hb e=>(sb.2 b hb).trans e) f0 f1 f3 f4 f5;obtain ⟨o,e,c,d⟩:=id st';exact ⟨u,rfl,L4 (s:={ s with heap:=h' }) e c d (by decide) ⟨x,H,I1,ru,⟨rfl,fun ys hy=>by rw [I.tuple_inj hy hq]; exact hx⟩,st',fun b hb=>(hf b hb).1⟩⟩
 done:=by
  intro X hP hw hK hc i pins s σ H E I hf st hg;subst hP hw hK;obtain ⟨xs,hq,hx⟩:=hg;obtain ⟨its,rv,p,hz⟩:=I.tuple hq;obtain ⟨f0,f1,f2,f3,f4,f5⟩:=hf it (by simp);have hl:=rv.length;exact wpAny_pyNext_tuple_end (I.ok.hd hc) st (show s.heap.IsTuple a its.toArray from p) (by simp; omega) fun h' eb=>⟨rfl,I.turned (t':=s.toks) (fun b o hb e=>eb b o hb e) f0 f1 f3 f4 f5⟩
 self:=fun _ _ _ _ _ st h=>wpAny_pyIter_tupleiter st h
theorem Fh {P:Program} {w:World} {K:af} {tg:Expr} (it:Addr) (lo:Int) (n:Nat):Turn P w K tg (Itr lo n) [it] it (fun i h=>IsRangeIter h it (lo+(i:Nat)*1) ((n:Int) - (i:Nat)) 1) where
 mem:=by simp
 obj:=fun i h st b hb=>by
  have e:b=it:=by simpa using hb
  subst e;exact ⟨_,st,fun v z=>by
   have z':Data.fields _=Data.cell v:=z;cases z'⟩
 keep:=fun i h h' st k=>k it (by simp) _ st
 item:=by
  intro X hP hw hK hc i pins s σ H E I hf st hg;subst hP hw hK;obtain ⟨f0,f1,f2,f3,f4,f5⟩:=hf it (by simp);have W:=Walks.range (prog:=X.prog) (w:=X.w) (I.ok.hd hc) it lo 1 n;refine W.item i s _ _ hg st fun v h' tk hv st' kk=>?_;obtain ⟨t,rfl⟩:=hv;have I1:Inv X pins σ H { s with heap:=h',toks:=tk }:=I.turned (fun b o hb e=>kk b o (by simpa using hb) e) f0 f1 f3 f4 f5
  refine ⟨_,rfl,L4 (s:={ s with heap:=h',toks:=tk }) (n:="range_iterator") st' rfl rfl (by decide) ⟨.int (lo+i),H,I1,⟨t,?_⟩,⟨rfl,rfl⟩,st',fun b hb=>(hf b hb).1⟩⟩;rw [Int.mul_one]
 done:=by
  intro X hP hw hK hc i pins s σ H E I hf st hg;subst hP hw hK;obtain ⟨f0,f1,f2,f3,f4,f5⟩:=hf it (by simp);exact wpAny_pyNext_range_end (I.ok.hd hc) st (by have:n<=i:=hg; omega) fun h' eb=>⟨rfl,I.turned (t':=s.toks) (fun b o hb e=>eb b o hb e) f0 f1 f3 f4 f5⟩
 self:=fun _ _ _ _ _ st h=>wpAny_pyIter_rangeiter st h
section
variable {X:Cx} {tg:Expr}
theorem L5 {pins:List (Addr×Obj)} {σ:St} {H:Hp} {s:Shared} {R:It->Hp->Prop} {E:Value->Shared->Prop} {lo hi:Int} {t u v:Tok} {tk:Nat} (I:Inv X pins σ H s) (h1:-(2 ^ 62)<=lo) (h2:lo < 2 ^ 62) (h3:-(2 ^ 62)<=hi) (h4:hi < 2 ^ 62)
  (q:R (Itr lo (hi - lo).toNat) H):wpAny (model X.prog X.w) X.A (pyIter (.ref s.heap.objs.size)) (PIE X pins σ tg R) E { s with heap:=s.heap.push { cls:=.type "range",data:=.fields #[.int lo t,.int hi u,.int 1 v] },toks:=tk }:=by
 refine wpAny_pyIter_range (IsRange.new ..) (small_one h1 h2 h3 h4) ?_;have I1:Inv X pins σ H { s with heap:=s.heap.push { cls:=.type "range",data:=.fields #[.int lo t,.int hi u,.int 1 v] },toks:=tk }:=I.kept fun b o e=>ah _ e;refine ⟨(s.heap.push { cls:=.type "range",data:=.fields #[.int lo t,.int hi u,.int 1 v] }).objs.size,[(s.heap.push { cls:=.type "range",data:=.fields #[.int lo t,.int hi u,.int 1 v] }).objs.size],_,_,H,rfl,
  I1.kept (t':=tk) fun b o e=>ah _ e,Fh _ lo (hi - lo).toNat,?_,fun b hb=>?_,q⟩
 ·have e1:lo+((0:Nat):Int)*1=lo:=by simp
  have e2:(((hi - lo).toNat:Nat):Int) - ((0:Nat):Int)=Builtin.Range.rangeSize lo hi 1:=by rw [rangeSize_one]; split <;> omega
  show IsRangeIter _ _ (lo+((0:Nat):Int)*1) ((((hi - lo).toNat:Nat):Int) - ((0:Nat):Int)) 1
  rw [e1,e2];exact a8 _ rfl
 ·have e:b=(s.heap.push { cls:=.type "range",data:=.fields #[.int lo t,.int hi u,.int 1 v] }).objs.size:=by simpa using hb
  subst e;exact I1.fpOk (ai _) (I1.hok.fresh (ai _))
def Xh (wi:TI) (g:TG) (tb:TS):TS:=fun D σ H=>wi σ H fun J H1=>∃ W:Nat->Nat->St->Hp->Prop,(∃ m,W 0 m σ H1)/\∀ i m σ H,W i m σ H->
 (J.stop i H/\D.nx σ H)\/(J.go i H/\∃ N:St->Hp->Prop,(∀ σ' H',N σ' H'->∃ m',m' < m/\W (i+1) m' σ' H')/\∀ x H',J.yld i H x H'->g x σ H' fun σ2 H2=>tb { D with nx:=N,ct:=N,bk:=D.nx } σ2 H2)
def vI (fp:List Addr) (h:Heap):List (Addr×Obj):=fp.filterMap fun b=>(h.get? b).map fun o=>(b,o)
theorem jJ {fp:List Addr} {h:Heap} {b:Addr} {o:Obj} (hb:b∈fp) (e:h.get? b=some o):(b,o)∈vI fp h:=List.mem_filterMap.mpr ⟨b,hb,by rw [e]; rfl⟩
theorem IS {fp:List Addr} {h:Heap} {p:Addr×Obj} (hp:p∈vI fp h):p.1∈fp/\h.get? p.1=some p.2:=by
 obtain ⟨b,hb,e⟩:=List.mem_filterMap.mp hp;cases q:h.get? b with
 | none=>rw [q] at e; cases e
 | some o=>
  rw [q] at e;have e':(b,o)=p:=bh e;subst e';exact ⟨hb,q⟩
theorem Inv.pinned {pins:List (Addr×Obj)} {σ:St} {H:Hp} {s:Shared} {fp:List Addr} (I:Inv X pins σ H s) (hf:∀ b∈fp,D3 X pins H b) (ho:∀ b∈fp,∃ o,s.heap.get? b=some o/\∀ v,o.data≠.cell v):Inv X (pins++vI fp s.heap) σ H s:=
 I.pins_of fun p hp=>(bj.mp hp).elim (fun z=>I.pin p (ak _ z)) fun z=>by
  obtain ⟨hb,e⟩:=IS z;obtain ⟨f0,f1,f2,_⟩:=hf p.1 hb;obtain ⟨o,e',d⟩:=ho p.1 hb;rw [e] at e'; cases e';exact ⟨e,f0,f1,f2,d⟩
theorem Inv.unpinned {pins pl:List (Addr×Obj)} {σ:St} {H:Hp} {s:Shared} (I:Inv X (pins++pl) σ H s):Inv X pins σ H s:=I.pins_of fun p hp=>I.pin p (ak _ (f7 _ hp))
theorem SB {iter:Expr} {body:List Stmt} {wi:TI} {g:TG} {tb:TS} {pos:Pos} (hp:PassesOwn (model X.prog X.w) X.A X.env X.xe) (hc:X.calm=true) (hi:PI X tg iter wi) (hg:PG X tg g) (hb:PSs X body tb)
  (hs:∀ x,iz iter X.env x=pure x:=by intro _; rfl):PS X (.For tg iter body [] pos) (Xh wi g tb):=by
 intro pins s σ H D I h;refine wpAny_For (thn (hi pins s σ H _ I h) fun v s1 h1=>thn h1 fun itv s2 h2=>?_) hs;obtain ⟨it,fp,tn,J,H2,e,I2,T,st2,f2,W,⟨m0,w0⟩,turn⟩:=h2;subst e
 -- what stays true of the iterator's objects through the loop
 have stat:∀ {H':Hp},(∀ b∈fp,H' b=none)->∀ b∈fp,D3 X pins H' b:=fun hn b hb=>⟨hn b hb,(f2 b hb).2⟩;refine codeAny_forLoop_any (fun n s'=>∃ i σ' H',Inv X pins σ' H' s'/\tn i s'.heap/\(∀ b∈fp,H' b=none)/\W i n σ' H') ?_ m0 ⟨0,σ,H2,I2,st2,fun b hb=>(f2 b hb).1,w0⟩;rintro n s3 ⟨i,σ3,H3,I3,st3,fr3,w3⟩;rcases turn i n σ3 H3 w3 with ⟨stop,qn⟩ | ⟨go,N,hN,step⟩
 ·refine wpAny_passesOwn hp (thn (T.done X rfl rfl rfl hc i pins s3 σ3 H3 X.xe I3 (stat fr3) st3 stop) fun r s4 ⟨hr,I4⟩=>?_);subst hr;exact wpAny_execs_nil ⟨σ3,H3,I4,qn⟩
 ·refine wpAny_passesOwn hp (thn (T.item X rfl rfl rfl hc i pins s3 σ3 H3 X.xe I3 (stat fr3) st3 go) fun r s4 ⟨u,hr,h4⟩=>?_);subst hr;refine wpAny_passesOwn hp (thn h4 fun _ s5 hz=>?_);obtain ⟨x,H5,I5,r5,y5,st5,fr5⟩:=hz;have I5':=I5.pinned (stat fr5) (T.obj _ _ st5);refine wpAny_passesOwn hp (thn (hg _ s5 σ3 H5 x u _ I5' r5 (step x H5 y5)) fun _ s6 ⟨σ6,H6,I6,q6⟩=>?_);refine wpAny_passesOwn hp (thn (hb _ s6 σ6 H6 _ I6 q6) fun f s7 q7=>?_);have again:∀ {σ7:St} {H7:Hp},Inv X (pins++vI fp s5.heap) σ7 H7 s7->N σ7 H7->∃ m,m < n/\∃ i σ' H',Inv X pins σ' H' s7/\tn i s7.heap/\(∀ b∈fp,H' b=none)/\W i m σ' H':=fun {σ7 H7} I7 n7=>by
   obtain ⟨m',hm,w7⟩:=hN σ7 H7 n7;refine ⟨m',hm,i+1,σ7,H7,I7.unpinned,T.keep _ _ _ st5 fun b hb o e=>(I7.pin (b,o) (ak _ (ak _ (jJ hb e)))).1,fun b hb=>?_,w7⟩;obtain ⟨o,e,d⟩:=T.obj _ _ st5 b hb;exact (I7.pin (b,o) (ak _ (ak _ (jJ hb e)))).2.1
  cases f with
  | next=>obtain ⟨σ7,H7,I7,n7⟩:=q7; exact again I7 n7
  | cont=>obtain ⟨σ7,H7,I7,n7⟩:=q7; exact again I7 n7
  | brk=>obtain ⟨σ7,H7,I7,q7⟩:=q7; exact ⟨σ7,H7,I7.unpinned,q7⟩
  | ret v=>obtain ⟨x7,σ7,H7,I7,r7,q7⟩:=q7; exact ⟨x7,σ7,H7,I7.unpinned,r7,q7⟩
end
abbrev R2:=V->V->Hp->VK->Prop
def OpR (X:Cx) (f:Value->Value->Sem Value) (r:R2):Prop:=
 ∀ (pins:List (Addr×Obj)) (s:Shared) (σ:St) (H:Hp) (x y:V) (v u:Value) (Q:VK),Inv X pins σ H s->RelV x v->RelV y u->r x y H Q->
  wpAny (model X.prog X.w) X.A (f v u) (EP X pins σ Q) X.xe s
def UnR (X:Cx) (f:Value->Sem Value) (r:V->Hp->VK->Prop):Prop:=
 ∀ (pins:List (Addr×Obj)) (s:Shared) (σ:St) (H:Hp) (x:V) (v:Value) (Q:VK),Inv X pins σ H s->RelV x v->r x H Q->
  wpAny (model X.prog X.w) X.A (f v) (EP X pins σ Q) X.xe s
def bS (X:Cx) (f:Value) (r:List V->Hp->VK->Prop):Prop:=
 ∀ (pins:List (Addr×Obj)) (s:Shared) (σ:St) (H:Hp) (xs:List V) (us:List Value) (Q:VK),Inv X pins σ H s->aM xs us->r xs H Q->
  wpAny (model X.prog X.w) X.A (call f us) (EP X pins σ Q) X.xe s
def Xi (X:Cx) (r:V->Hp->(Bool->Hp->Prop)->Prop):Prop:=
 ∀ (pins:List (Addr×Obj)) (s:Shared) (σ:St) (H:Hp) (x:V) (v:Value) (Q:Bool->Hp->Prop),Inv X pins σ H s->RelV x v->r x H Q->
  wpAny (model X.prog X.w) X.A (truthy v) (TP X pins σ Q) X.xe s
def tOp (r:R2) (ta tb:TE):TE:=fun σ H Q=>ta σ H fun x H1=>tb σ H1 fun y H2=>r x y H2 Q
def tUn (r:V->Hp->VK->Prop) (ta:TE):TE:=fun σ H Q=>ta σ H fun x H1=>r x H1 Q
def rI (C:Int->Int->Prop) (g:Int->Int->V):R2:=fun x y H Q=>∃ i j,x=.int i/\y=.int j/\C i j/\Q (g i j) H
def rI0 (g:Int->Int->V):R2:=fun x y H Q=>∃ i j,x=.int i/\y=.int j/\Q (g i j) H
def rU (g:Int->V):V->Hp->VK->Prop:=fun x H Q=>∃ i,x=.int i/\Q (g i) H
section
variable {X:Cx} {a b c:Expr} {ta tb tc:TE} {pos:Pos}
theorem SC (ha:PE X a ta) (hb:PE X b tb) {pins:List (Addr×Obj)} {s:Shared} {σ:St} {H:Hp} {R:V->V->Hp->Prop} (I:Inv X pins σ H s)
  (h:ta σ H fun x H1=>tb σ H1 fun y H2=>R x y H2) {Q:Value->Shared->Prop} {f:Value->Value->Sem Value}
  (hf:∀ v u s2 x y H2,Inv X pins σ H2 s2->RelV x v->RelV y u->R x y H2->wpAny (model X.prog X.w) X.A (f v u) Q X.xe s2):
  wpAny (model X.prog X.w) X.A (eval a X.env) (fun v s₁=>wpAny (model X.prog X.w) X.A (eval b X.env) (fun u s₂=>wpAny (model X.prog X.w) X.A (f v u) Q X.xe s₂) X.xe s₁) X.xe s:=by
 refine thn (ha pins s σ H _ I h) fun v s1 hz=>?_;obtain ⟨x,H1,I1,r1,q1⟩:=hz;refine thn (hb pins s1 σ H1 _ I1 q1) fun u s2 hz=>?_;obtain ⟨y,H2,I2,r2,q2⟩:=hz;exact hf v u s2 x y H2 I2 r1 r2 q2
theorem V8 {op:Operator} {r:R2} (ho:OpR X (ff op) r) (ha:PE X a ta) (hb:PE X b tb):PE X (.BinOp a op b pos) (tOp r ta tb):=by
 intro pins s σ H Q I h;exact wpAny_BinOp (SC ha hb I h fun v u s2 x y H2 I2 rx ry q=>ho pins s2 σ H2 x y v u Q I2 rx ry q)
theorem V9 {op:UnaryOp} {r:V->Hp->VK->Prop} (ho:UnR X (unaryOp op) r) (ha:PE X a ta):PE X (.UnaryOp op a pos) (tUn r ta):=by
 intro pins s σ H Q I h;exact UnaryOp_ (thn (ha pins s σ H _ I h) fun v s1 ⟨x,H1,I1,r1,q1⟩=>ho pins s1 σ H1 x v Q I1 r1 q1)
theorem opI {f:Value->Value->Sem Value} {C:Int->Int->Prop} {g:Int->Int->Int}
  (rule:∀ (i j:Int) (t u:Tok) (s:Shared) (Q:Value->Shared->Prop) (E:Value->Shared->Prop),C i j->Q (.int (g i j) s.toks) { s with toks:=s.toks+1 }->wpAny (model X.prog X.w) X.A (f (.int i t) (.int j u)) Q E s):
  OpR X f (rI C fun i j=>.int (g i j)):=by
 intro pins s σ H x y v u Q I rx ry h;obtain ⟨i,j,rfl,rfl,hc,q⟩:=h;obtain ⟨t,rfl⟩:=rx;obtain ⟨t',rfl⟩:=ry;exact rule i j t t' s _ _ hc ⟨.int (g i j),H,I.tok _,⟨_,rfl⟩,q⟩
theorem V' {f:Value->Value->Sem Value} {g:Int->Int->Int}
  (rule:∀ (i j:Int) (t u:Tok) (s:Shared) (Q:Value->Shared->Prop) (E:Value->Shared->Prop),Q (.int (g i j) s.toks) { s with toks:=s.toks+1 }->wpAny (model X.prog X.w) X.A (f (.int i t) (.int j u)) Q E s):
  OpR X f (rI0 fun i j=>.int (g i j)):=by
 intro pins s σ H x y v u Q I rx ry h;obtain ⟨i,j,rfl,rfl,q⟩:=h;obtain ⟨t,rfl⟩:=rx;obtain ⟨t',rfl⟩:=ry;exact rule i j t t' s _ _ ⟨.int (g i j),H,I.tok _,⟨_,rfl⟩,q⟩
theorem SD {f:Value->Value->Sem Value} {g:Int->Int->Bool}
  (rule:∀ (i j:Int) (t u:Tok) (s:Shared) (Q:Value->Shared->Prop) (E:Value->Shared->Prop),Q (.bool (g i j)) s->wpAny (model X.prog X.w) X.A (f (.int i t) (.int j u)) Q E s):
  OpR X f (rI0 fun i j=>.bl (g i j)):=by
 intro pins s σ H x y v u Q I rx ry h;obtain ⟨i,j,rfl,rfl,q⟩:=h;obtain ⟨t,rfl⟩:=rx;obtain ⟨t',rfl⟩:=ry;exact rule i j t t' s _ _ ⟨.bl (g i j),H,I,rfl,q⟩
def L6 (i j:Int):Prop:=0 < j/\j < 1073741824
def IT (i j:Int):Prop:=0<=j/\j<=1000000/\i.natAbs < 2 ^ 64
def D4 (i j:Int):Prop:=(-(2 ^ 64) < i/\i < 2 ^ 64)\/(-(2 ^ 64) < j/\j < 2 ^ 64)
theorem D4.ok {i j:Int} (h:D4 i j):IntMulOk i j:=by
 rcases h with ⟨h1,h2⟩ | ⟨h1,h2⟩
 ·exact .of_left (intBits_le_64 h1 h2)
 ·exact .of_right (intBits_le_64 h1 h2)
theorem SF:OpR X (ff .Add) (rI0 fun i j=>.int (i+j)):=V' fun _ _ _ _ _ _ _ q=>add_int q
theorem SH:OpR X (ff .Sub) (rI0 fun i j=>.int (i - j)):=V' fun _ _ _ _ _ _ _ q=>sub_int q
theorem SJ:OpR X (ff .Mult) (rI D4 fun i j=>.int (i*j)):=opI fun _ _ _ _ _ _ _ hc q=>mul_int q hc.ok
theorem OX:OpR X (ff .FloorDiv) (rI L6 fun i j=>.int (i / j)):=opI fun i j _ _ _ _ _ hc q=>by
 have h1:(0:Int) < j:=hc.1;have h2:j < 1073741824:=hc.2;exact floordiv_int (by omega) (by rw [Int.fdiv_eq_ediv_of_nonneg i (by omega)]; exact q) (.inl (PyProof.noPylong_small (by omega)))
theorem SK:OpR X (ff .Mod) (rI (fun _ j=>0 < j) fun i j=>.int (i % j)):=opI fun i j _ _ _ _ _ hc q=>by
 have h1:(0:Int) < j:=hc;exact mod_int' (by omega) (by rw [Int.fmod_eq_emod_of_nonneg i (by omega)]; exact q)
theorem SL:OpR X (ff .Pow) (rI IT fun i j=>.int (i ^ j.toNat)):=opI fun _ _ _ _ _ _ _ hc q=>pow_int_small hc.1 hc.2.1 hc.2.2 q
theorem unI {f:Value->Sem Value} {g:Int->Int}
  (rule:∀ (i:Int) (t:Tok) (s:Shared) (Q:Value->Shared->Prop) (E:Value->Shared->Prop),Q (.int (g i) s.toks) { s with toks:=s.toks+1 }->wpAny (model X.prog X.w) X.A (f (.int i t)) Q E s):
  UnR X f (rU fun i=>.int (g i)):=by
 intro pins s σ H x v Q I rx h;obtain ⟨i,rfl,q⟩:=h;obtain ⟨t,rfl⟩:=rx;exact rule i t s _ _ ⟨.int (g i),H,I.tok _,⟨_,rfl⟩,q⟩
theorem SM:UnR X (unaryOp .USub) (rU fun i=>.int (-i)):=unI fun _ _ _ _ _ q=>neg_int q
end
section
variable {X:Cx} {a b c:Expr} {ta tb tc:TE} {pos:Pos}
theorem vJ {pins:List (Addr×Obj)} {σ:St} {H:Hp} {s:Shared} {Q:VK} {k k':Bool} (I:Inv X pins σ H s) (q:Q (.bl k) H) (e:k=k'):EP X pins σ Q (.bool k') s:=by
 subst e;exact ⟨.bl k,H,I,rfl,q⟩
theorem Va:OpR X (cu .Lt) (rI0 fun i j=>.bl (decide (i < j))):=SD fun _ _ _ _ _ _ _ q=>lt_int q
theorem Vb:OpR X (cu .LtE) (rI0 fun i j=>.bl (decide (i<=j))):=SD fun _ _ _ _ _ _ _ q=>le_int q
theorem Vc:OpR X (cu .Gt) (rI0 fun i j=>.bl (decide (j < i))):=SD fun _ _ _ _ _ _ _ q=>gt_int q
theorem IU:OpR X (cu .Lt) (fun x y H Q=>∃ i j,x=.str i/\y=.str j/\Q (.bl (decide (i.cps.toList < j.cps.toList))) H):=by
 intro pins s σ H x y v u Q I rx ry h;obtain ⟨i,j,rfl,rfl,q⟩:=h;obtain ⟨t,rfl⟩:=rx;obtain ⟨t',rfl⟩:=ry;exact lt_str (vJ I q rfl)
theorem SN:OpR X (cu .Is) (fun x y H Q=>y=.non/\Q (.bl (decide (x=.non))) H):=by
 intro pins s σ H x y v u Q I rx ry h;obtain ⟨rfl,q⟩:=h;cases ry
 refine is_none_gen (vJ I q ?_);cases x <;> first
  | (cases rx; rfl)
  | (obtain ⟨t,rfl⟩:=rx; rfl)
theorem OY:OpR X (cu .IsNot) (fun x y H Q=>y=.non/\Q (.bl (!decide (x=.non))) H):=by
 intro pins s σ H x y v u Q I rx ry h;obtain ⟨rfl,q⟩:=h;cases ry
 refine isnot_none_gen (vJ I q ?_);cases x <;> first
  | (cases rx; rfl)
  | (obtain ⟨t,rfl⟩:=rx; rfl)
theorem OpR.or {f:Value->Value->Sem Value} {r r':R2} (h:OpR X f r) (h':OpR X f r'):OpR X f (fun x y H Q=>r x y H Q\/r' x y H Q):=by
 intro pins s σ H x y v u Q I rx ry q;rcases q with q | q
 ·exact h pins s σ H x y v u Q I rx ry q
 ·exact h' pins s σ H x y v u Q I rx ry q
theorem L7 (b:Expr) {op:CmpOp} (h:op≠.In:=by decide) (h2:op≠.NotIn:=by decide):behindInMarks op b=false:=by
 have e1:(op == CmpOp.In)=false:=by cases op <;> first | rfl | exact absurd rfl h
 have e2:(op == CmpOp.NotIn)=false:=by cases op <;> first | rfl | exact absurd rfl h2
 cases b <;> simp [behindInMarks,e1,e2]
theorem OZ {op:CmpOp} {r:R2} (ho:OpR X (cu op) r) (ha:PE X a ta) (hb:PE X b tb) (hm:behindInMarks op b=false):PE X (.Compare a [op] [b] pos) (tOp r ta tb):=by
 intro pins s σ H Q I h;exact wpAny_Compare1 (SC ha hb I h fun v u s2 x y H2 I2 rx ry q=>ho pins s2 σ H2 x y v u Q I2 rx ry q) hm
def Vd (t:TE):TT:=fun σ H Q=>t σ H fun x H'=>∃ k,x=.bl k/\Q k H'
def L8 (r r':R2) (ta tb tc:TE):TE:=fun σ H Q=>ta σ H fun x H1=>tb σ H1 fun y H2=>r x y H2 fun z H3=>∃ k,z=.bl k/\
 (if k=true then tc σ H3 fun w' H4=>r' y w' H4 Q else Q (.bl false) H3)
theorem L9 {op op':CmpOp} {r r':R2} (ho:OpR X (cu op) r) (ho':OpR X (cu op') r') (ha:PE X a ta) (hb:PE X b tb) (hc:PE X c tc)
  (hm:lastMarks [op,op'] [b,c]=false:=by with_unfolding_all rfl):PT X (.Compare a [op,op'] [b,c] pos) (Vd (L8 r r' ta tb tc)):=by
 intro pins s σ H Q I h;refine isTrue_chain (thn (ha pins s σ H _ I h) fun v s1 ⟨x,H1,I1,r1,q1⟩=>test_link (thn (hb pins s1 σ H1 _ I1 q1) fun u s2 ⟨y,H2,I2,r2,q2⟩=>
  thn (ho pins s2 σ H2 x y v u _ I2 r1 r2 q2) fun d s3 ⟨z,H3,I3,r3,k,e,q3⟩=>?_)) hm
 subst e;cases r3
 refine i3 ?_;cases k with
 | false=>
  obtain ⟨k',e',q'⟩:=q3;cases e'
  exact ite_ff ⟨H3,I3,q'⟩
 | true=>
  refine ite_tt (test_last (thn (hc pins s3 σ H3 _ I3 q3) fun w' s4 ⟨z',H4,I4,r4,q4⟩=>thn (ho' pins s4 σ H4 y z' u w' _ I4 r2 r4 q4) fun d' s5 hz=>?_));obtain ⟨z2,H5,I5,r5,k2,e2,q5⟩:=hz;subst e2;cases r5
  exact i3 ⟨H5,I5,q5⟩
def Fi (K:af) (x:V) (H:Hp) (k:Bool):Prop:=
 match x with
 | .non=>k=false
 | .bl b=>k=b
 | .int i=>k=(i != 0)
 | .str y=>y.length<=aw/\k=((y.length:Int) != 0)
 | .byt y=>y.size<=aw/\k=((y.size:Int) != 0)
 | .ref p=>(∃ xs,SqL K H p xs/\k=!xs.isEmpty)\/(∃ xs,SqT K H p xs/\k=!xs.isEmpty)\/∃ kvs,H p=some (.dK kvs)/\k=!kvs.isEmpty
 | _=>False
theorem Fj {κ:Type} {kvs:List (κ×V)} {vs:List (κ×Value)} (r:KV kvs vs):(!vs.isEmpty)=!kvs.isEmpty:=by
 cases r <;> rfl
theorem vK {xs:List V} {its:List Value} (r:aM xs its):(!its.toArray.isEmpty)=!xs.isEmpty:=by
 cases r <;> simp
theorem nR:(aw:Nat) < 2 ^ 63:=by rw [c6]; decide
theorem L':Xi X (fun x H Q=>∃ k,Fi X.K x H k/\Q k H):=by
 intro pins s σ H x v Q I rx h;obtain ⟨k,e,q⟩:=h;have hl:=nR;have hs:aw=16777216:=c6;cases x with
 | non=>
  cases rx
  have e':k=false:=e;subst e';exact truthy_none ⟨H,I,q⟩
 | bl b=>
  cases rx
  have e':k=b:=e;subst e';exact i3 ⟨H,I,q⟩
 | int i=>
  obtain ⟨t,rfl⟩:=rx;have e':k=(i != 0):=e;subst e';exact PySem.P.truthy_int ⟨H,I,q⟩
 | str y=>
  obtain ⟨t,rfl⟩:=rx;obtain ⟨hy,e'⟩:y.length<=aw/\k=((y.length:Int) != 0):=e;subst e';exact PySem.P.truthy_str (by omega) ⟨H,I.tok _,q⟩
 | byt y=>
  obtain ⟨t,rfl⟩:=rx;obtain ⟨hy,e'⟩:y.size<=aw/\k=((y.size:Int) != 0):=e;subst e';exact PySem.W.truthy_bytes (by omega) ⟨H,I.tok _,q⟩
 | ref p=>
  cases rx
  have e':(∃ xs,SqL X.K H p xs/\k=!xs.isEmpty)\/(∃ xs,SqT X.K H p xs/\k=!xs.isEmpty)\/∃ kvs,H p=some (.dK kvs)/\k=!kvs.isEmpty:=e;rcases e' with ⟨xs,hx,e'⟩ | ⟨xs,hx,e'⟩ | ⟨kvs,hx,e'⟩
  ·subst e';obtain ⟨its,r,pl,hz⟩:=I.list hx;have hlen:=r.length;exact wpAny_truthy_list pl.isList (by simp only [ar]; omega) ⟨H,I.tok _,by rw [vK r]; exact q⟩
  ·subst e';obtain ⟨its,r,pl,hz⟩:=I.tuple hx;have hlen:=r.length;exact truthy_tuple pl (by simp only [ar]; omega) ⟨H,I.tok _,by rw [vK r]; exact q⟩
  ·subst e';obtain ⟨hz,hS,vs,r,m⟩:kvs.length<=aw/\(p == fh)=false/\∃ vs,KV kvs vs/\s.heap.DictOf (bL X.prog X.w) p vs:=I.hok p _ hx;have hlen:kvs.length=vs.length:=ee r;exact wpAny_truthy_dict hS m (by omega) ⟨H,I.tok _,by rw [Fj r]; exact q⟩
 | _=>exact (show False from e).elim
theorem La (ha:PE X a ta) (he:∀ whole,isTrue a X.env whole=(do let v <- whole; standAt a.pos; holding [v] (truthy v))):
  PT X a (fun σ H Q=>ta σ H fun x H'=>∃ k,Fi X.K x H' k/\Q k H'):=by
 intro pins s σ H Q I h;exact isTrue_plain (thn (ha pins s σ H _ I h) fun v s1 ⟨x,H1,I1,r1,q1⟩=>L' pins s1 σ H1 x v Q I1 r1 q1) (he _)
theorem Fk:OpR X (ff .Add) (fun x y H Q=>∃ i j,x=.str i/\y=.str j/\i.length+j.length<=aw/\Q (.str (i++j)) H):=by
 intro pins s σ H x y v u Q I rx ry h;obtain ⟨i,j,rfl,rfl,hz,q⟩:=h;obtain ⟨t,rfl⟩:=rx;obtain ⟨t',rfl⟩:=ry;exact add_str (fun t' tk=>⟨.str (i++j),H,I.tok _,⟨_,rfl⟩,q⟩) hz
theorem vals1 {x:V} {us:List Value} (r:aM [x] us):∃ u,us=[u]/\RelV x u:=by
 cases r with
 | cons r1 r2=>cases r2; exact ⟨_,rfl,r1⟩
theorem vals2 {x y:V} {us:List Value} (r:aM [x,y] us):∃ u w',us=[u,w']/\RelV x u/\RelV y w':=by
 cases r with
 | cons r1 r2=>
  cases r2 with
  | cons r3 r4=>cases r4; exact ⟨_,_,rfl,r1,r3⟩
theorem IV (hc:X.calm=true):bS X (.builtin "max") (fun xs H Q=>∃ i j,xs=[.int i,.int j]/\Q (.int (if j > i then j else i)) H):=by
 intro pins s σ H xs us Q I r h;obtain ⟨i,j,rfl,q⟩:=h;obtain ⟨u,w',rfl,⟨t,rfl⟩,⟨t',rfl⟩⟩:=vals2 r;refine max_two_ints (I.ok.hd hc) fun h' tk k=>⟨_,H,I.kept k,?_,q⟩
 by_cases hj:j > i
 ·rw [if_pos hj,if_pos hj]; exact ⟨_,rfl⟩
 ·rw [if_neg hj,if_neg hj]; exact ⟨_,rfl⟩
theorem IW (hc:X.calm=true):bS X (.builtin "min") (fun xs H Q=>∃ i j,xs=[.int i,.int j]/\Q (.int (if j < i then j else i)) H):=by
 intro pins s σ H xs us Q I r h;obtain ⟨i,j,rfl,q⟩:=h;obtain ⟨u,w',rfl,⟨t,rfl⟩,⟨t',rfl⟩⟩:=vals2 r;refine min_two_ints (I.ok.hd hc) fun h' tk k=>⟨_,H,I.kept k,?_,q⟩
 by_cases hj:j < i
 ·rw [if_pos hj,if_pos hj]; exact ⟨_,rfl⟩
 ·rw [if_neg hj,if_neg hj]; exact ⟨_,rfl⟩
def Xj (K:af) (x:V) (H:Hp) (n:Nat):Prop:=
 match x with
 | .str y=>y.length<=aw/\n=y.length
 | .byt y=>y.size<=aw/\n=y.size
 | .ref p=>(∃ xs,SqL K H p xs/\n=xs.length)\/∃ xs,SqT K H p xs/\n=xs.length
 | _=>False
theorem Lb:bS X (.builtin "len") (fun xs H Q=>∃ x n,xs=[x]/\Xj X.K x H n/\Q (.int n) H):=by
 intro pins s σ H xs us Q I r h;obtain ⟨x,n,rfl,e,q⟩:=h;obtain ⟨u,rfl,rx⟩:=vals1 r;have hl:=nR;have hs:aw=16777216:=c6;cases x with
 | str y=>
  obtain ⟨t,rfl⟩:=rx;obtain ⟨hy,e'⟩:y.length<=aw/\n=y.length:=e;subst e';exact len_str (by omega) ⟨.int _,H,I.tok _,⟨_,rfl⟩,q⟩
 | byt y=>
  obtain ⟨t,rfl⟩:=rx;obtain ⟨hy,e'⟩:y.size<=aw/\n=y.size:=e;subst e';exact PySem.W.len_bytes (by omega) ⟨.int _,H,I.tok _,⟨_,rfl⟩,q⟩
 | ref p=>
  cases rx
  have e':(∃ xs,SqL X.K H p xs/\n=xs.length)\/∃ xs,SqT X.K H p xs/\n=xs.length:=e;rcases e' with ⟨xs,hx,e'⟩ | ⟨xs,hx,e'⟩
  ·subst e';obtain ⟨its,r',pl,hz⟩:=I.list hx;have hlen:=r'.length;exact Calls.call_len_list pl.isList (by simp only [ar]; omega) ⟨.int xs.length,H,I.tok _,⟨_,by simp only [ar]; rw [hlen]⟩,q⟩
  ·subst e';obtain ⟨its,r',pl,hz⟩:=I.tuple hx;have hlen:=r'.length;exact len_tuple pl (by simp only [ar]; omega) ⟨.int xs.length,H,I.tok _,⟨_,by simp only [ar]; rw [hlen]⟩,q⟩
 | _=>exact (show False from e).elim
end
structure Yb (h:Heap) (x dx C:Addr) (mA:Str->Option Value):Prop where
 obj:h.get? x=some (PySem.W.instObj C dx)
 ns:h.Ns1 dx mA
 ne:dx≠x
theorem uK.some_of {v:V} {o:Option Value} (r:uK (some v) o):∃ u,o=some u/\RelV v u:=by
 cases o with
 | none=>exact (show False from r).elim
 | some u=>exact ⟨u,rfl,r⟩
structure Cls (K:af) (C:Addr):Prop where
 pg:PySem.W.plainGet K C Str.empty=true
 hd:PySem.W.hasDictIn K C=true
 po:PySem.W.plainOver K C=true
 sa:lp K (.ref C) "__setattr__" = some (some (.builtin "object.__setattr__"))
structure Con (K:af) (C:Addr) (f:Str) (v:V) (u:Value):Prop where
 at_:lp K (.ref C) f=some (some u)
 rel:RelV v u
 get:PySem.W.specialIn K u "__get__" = some none
 cp:PySem.W.copiedNames.contains f=false
structure Yc (K:af) (C:Addr) (m:Str) (f:Addr):Prop where
 at_:lp K (.ref C) m=some (some (.ref f))
 fn:PySem.W.isFn K (.ref f)=true
 kp:bg K (.ref f)=true
section
variable {X:Cx} {pins:List (Addr×Obj)} {σ:St} {H:Hp} {s:Shared} {A:Around} {E:Value->Shared->Prop} {Q:Value->Shared->Prop} {c:Value} {b:Bool}
inductive vL (K:af) (H:Hp):V->Value->Prop where
 | non:vL K H .non (.type "NoneType")
 | bl (x:Bool):vL K H (.bl x) (.type "bool")
 | int (i:Int):vL K H (.int i) (.type "int")
 | str (x:Str):vL K H (.str x) (.type "str")
 | flt (x:UInt64):vL K H (.flt x) (.type "float")
 | lst {a:Addr} {xs:List V} (e:H a=some (.lst xs)):vL K H (.ref a) (.type "list")
 | frz {a:Addr} {o:Obj} {xs:List V} (e:H a=some (.frz o (.lst xs))):vL K H (.ref a) (.type "list")
 | tup {a:Addr} {xs:List V} (e:H a=some (.tup xs)):vL K H (.ref a) (.type "tuple")
 | dK {a:Addr} {kvs:List (Key×V)} (e:H a=some (.dK kvs)):vL K H (.ref a) (.type "dict")
 | dT {a:Addr} {kvs:List (List Key×V)} (e:H a=some (.dT kvs)):vL K H (.ref a) (.type "dict")
 | ins {a C dx:Addr} {fs:List (Str×V)} (e:H a=some (.ins C dx fs)) (cl:Cls K C) (ha:lp K (.ref C) "__class__" = some (some (.builtin "object.__class__")))
   (hn:PySem.W.specialIn K (.builtin "object.__class__") "__get__" = some (some (.builtin "getset_descriptor.__get__"))) (htk:PySem.W.takesIn K (.builtin "object.__class__")=some true)
   (hm:PySem.W.mroIn K C (.type "object")=some true):vL K H (.ref a) (.ref C)
end
structure gG (k:Nat) (A:Around):Prop where
 hd:A.handled=none
 dp:A.depth+3*k+5 < recursionLimit
 un:A.units+16*k+200 < cLine
theorem gG.mono {j k:Nat} {A:Around} (r:gG k A) (h:j<=k):gG j A:=⟨r.hd,by have:=r.dp; omega,by have:=r.un; omega⟩
theorem gG.deeper {k:Nat} {A:Around} (r:gG (k+1) A) (env:Env):gG k (A.deeper env):=
 ⟨r.hd,by have:=r.dp; show A.depth+1+3*k+5 < _; omega,by have:=r.un; show A.units+3+16*k+200 < _; omega⟩
theorem gG.in1 {k:Nat} {A:Around} (r:gG (k+1) A):gG k A.in1:=
 ⟨r.hd,by have:=r.dp; show A.depth+3*k+5 < _; omega,by have:=r.un; show A.units+1+16*k+200 < _; omega⟩
theorem gG.depth {k:Nat} {A:Around} (r:gG k A):A.depth < recursionLimit:=by have:=r.dp; omega
theorem gG.units {k:Nat} {A:Around} (r:gG k A):A.units+64 < cLine:=by have:=r.un; omega
def SQ:TA:=fun _ H Q=>Q [] H
def Lc (ta:TE) (tr:TA):TA:=fun σ H Q=>ta σ H fun x H1=>tr σ H1 fun xs H2=>Q (x :: xs) H2
section
variable {X:Cx} {e:Expr} {es:List Expr} {te:TE} {t:TA} {pos:Pos}
theorem Bf:PA X [] SQ:=fun _ _ _ _ H Q I h=>Calls.spliced_nil ⟨[],H,I,.nil,h⟩
theorem uX (ha:PE X e te) (hr:PA X es t) (hs:cf (e :: es) X.env=(false,eval e X.env) :: cf es X.env:=by rfl):PA X (e :: es) (Lc te t):=by
 intro pos pins s σ H Q I h;rw [hs]
 show wpAny _ _ (spliced ((false,eval e X.env) :: backTo pos (cf es X.env))) _ _ s
 refine Calls.spliced_cons (thn (ha pins s σ H _ I h) fun u s1 hz=>?_);obtain ⟨x,H1,I1,r1,q1⟩:=hz;exact thn (hr pos pins s1 σ H1 _ I1 q1) fun us s2 ⟨xs,H2,I2,r2,q2⟩=>⟨x :: xs,H2,I2,.cons r1 r2,q2⟩
def Xk (t:TA):TE:=fun σ H Q=>t σ H fun xs H1=>xs.length<=aw/\∀ p,H1 p=none->Q (.ref p) (upd H1 p (.tup xs))
def Xl (t:TA):TE:=fun σ H Q=>t σ H fun xs H1=>xs.length<=aw/\∀ p,H1 p=none->Q (.ref p) (upd H1 p (.lst xs))
theorem SR {x1} (h:PA X es t):PE X (.Tuple es x1 pos) (Xk t):=by
 intro pins s σ H Q I hq;refine wpAny_Tuple_spliced (thn (h pos pins s σ H _ I hq) fun us s1 ⟨xs,H1,I1,r,z,q⟩=>⟨by rw [<- r.length]; exact z,?_⟩);have hf:H1 s1.heap.objs.size=none:=I1.hok.fresh (ai _);refine ⟨.ref s1.heap.objs.size,upd H1 s1.heap.objs.size (.tup xs),I1.laid (t':=s1.toks) (fun b u e=>ah _ e) (ai _) ?_,rfl,q _ hf⟩;exact ⟨z,us,r,⟨_,a8 _ rfl,rfl,⟨_,rfl⟩,rfl⟩⟩
theorem SS (h:PA X es t):PE X (.List es pos) (Xl t):=by
 intro pins s σ H Q I hq;refine wpAny_List_spliced (thn (h pos pins s σ H _ I hq) fun us s1 ⟨xs,H1,I1,r,z,q⟩=>⟨by rw [<- r.length]; exact z,?_⟩);have hf:H1 s1.heap.objs.size=none:=I1.hok.fresh (ai _);refine ⟨.ref s1.heap.objs.size,upd H1 s1.heap.objs.size (.lst xs),I1.laid (t':=s1.toks) (fun b u e=>ah _ e) (ai _) ?_,rfl,q _ hf⟩;exact ⟨z,us,0,r,a8 _ rfl⟩
end
abbrev Sp:=List V->Hp->VK->XK->Prop
abbrev CXT:=List Env->Hp->Shared->XK->Value->Shared->Prop
structure Fm (P:Program) (w:World) (K:af) (mg:Str->Option Value) (base:Heap) (A:Around) (outer:List Env) (s:Shared) (H:Hp):Prop where
 frames:A.frames=some outer
 mod:Mod K mg base
 bs:∀ b o,base.get? b=some o->s.heap.get? b=some o/\H b=none
 bsz:base.objs.size<=s.heap.objs.size
 funs:s.heap.FunFrames base outer
 frf:∀ b∈frs outer,H b=none
 hok:HOk P w H s.heap
 bare:AllBare s.gens
def CE (outer:List Env) (P:Program) (w:World) (H:Hp) (s:Shared) (Q:VK) (u:Value) (s':Shared):Prop:=
 ∃ v H',s'.os=s.os/\AllBare s'.gens/\Un (frs outer) [] H H' s.heap s'.heap/\HOk P w H' s'.heap/\RelV v u/\Q v H'
def CR (CX:CXT) (outer:List Env) (P:Program) (w:World) (H:Hp) (s:Shared) (Q:VK) (E:XK) (r:Result) (s':Shared):Prop:=
 match r with
 | .ok (.ret u)=>CE outer P w H s Q u s'
 | .ok _=>False
 | .error e=>CX outer H s E e s'
structure aU (P:Program) (w:World) (K:af) (mg:Str->Option Value) (base:Heap) (CX:CXT) (k:Nat) (f:Addr) (fd:c3) (ps:List Str) (sp:Sp):Prop where
 len:∀ vs H Q E,sp vs H Q E->vs.length=ps.length
 run:∀ (A:Around) (outer:List Env) (s:Shared) (H:Hp) (args:Args) (us:List Value) (vs:List V) (Q:VK) (E:XK),gG k A->Fm P w K mg base A outer s H->BindsTo s fd args (ps.zip us)->aM vs us->sp vs H Q E->
  codeAny (model P w) A (.call (.ref f) args) (CR CX outer P w H s Q E) s
theorem aU.imp {P:Program} {w:World} {K:af} {mg:Str->Option Value} {base:Heap} {CX:CXT} {k:Nat} {f:Addr} {fd:c3} {ps:List Str} {sp sp':Sp} (F:aU P w K mg base CX k f fd ps sp)
  (h:∀ vs H Q E,sp' vs H Q E->sp vs H Q E):aU P w K mg base CX k f fd ps sp':=
 ⟨fun vs H Q E q=>F.len vs H Q E (h _ _ _ _ q),fun A outer s H args us vs Q E hr he hb hv hs=>F.run A outer s H args us vs Q E hr he hb hv (h _ _ _ _ hs)⟩
theorem Fm.in1 {P:Program} {w:World} {K:af} {mg:Str->Option Value} {base:Heap} {A:Around} {outer:List Env} {s:Shared} {H:Hp} (e:Fm P w K mg base A outer s H):
  Fm P w K mg base A.in1 outer s H:=⟨e.frames,e.mod,e.bs,e.bsz,e.funs,e.frf,e.hok,e.bare⟩
section
variable {X:Cx} {pins:List (Addr×Obj)} {σ:St} {H:Hp} {s s':Shared}
theorem Inv.env0 (I:Inv X pins σ H s):Fm X.prog X.w X.K X.mg X.base X.A X.stack s H:=
 ⟨I.ok.frames,I.ok.mod,I.bs,c4 I.ok.bsz I.sz,I.stack,I.stkFree,I.hok,I.bare⟩
theorem Inv.after {Q:VK} {u:Value} (I:Inv X pins σ H s) (h:CE X.stack X.prog X.w H s Q u s'):EP X pins σ Q u s':=by
 obtain ⟨v,H',os,bare,un,hok,r,q⟩:=h;obtain ⟨hh,g,d,t,os'⟩:=s';obtain rfl:os'=s.os:=os;exact ⟨v,H',I.call (h':=hh) (g':=g) (d':=d) (t':=t) (ch:=[]) un hok bare (fun b z=>absurd z (by simp)),r,q⟩
end
def RX (sp:Sp) (dvs:List V) (E:XK) (t:TA):TE:=fun σ H Q=>t σ H fun vs H1=>sp (vs++dvs) H1 Q E
def Binds (K:af) (fd:c3) (ps:List Str) (ds:List Value):Prop:=
 ∀ (s:Shared) (us:List Value),K.In s.heap->(us++ds).length=ps.length->BindsTo s fd ⟨us,[]⟩ (ps.zip (us++ds))
theorem Binds.all {K:af} {fd:c3} {ps:List Str} (h:∀ us:List Value,us.length=ps.length->bindArgs fd ⟨us,[]⟩=pure (ps.zip us)):Binds K fd ps []:=fun s us _ hl=>by
 rw [my] at hl ⊢;exact .of_eq (h us hl)
def Fo (CX:CXT) (X:Cx) (E:XK):Prop:=∀ (pins:List (Addr×Obj)) (σ:St) (H:Hp) (s:Shared) (e:Value) (s':Shared),Inv X pins σ H s->CX X.stack H s E e s'->X.xe e s'
section
variable {X:Cx} {CX:CXT} {k:Nat} {f C:Addr} {fd:c3} {ps:List Str} {sp:Sp} {dvs:List V} {ds:List Value} {E:XK} {x m:Str} {p pos apos:Pos} {e o:Expr} {es:List Expr} {ta:TE} {t:TA}
theorem SU {pins:List (Addr×Obj)} {σ:St} {H:Hp} {s:Shared} {Q:VK} {us:List Value} {vs:List V} (F:aU X.prog X.w X.K X.mg X.base CX k f fd ps sp) (hr:gG k X.A) (hb:Binds X.K fd ps ds) (hd:aM dvs ds) (hx:Fo CX X E)
  (I:Inv X pins σ H s) (r:aM vs us) (h:sp (vs++dvs) H Q E):wpAny (model X.prog X.w) X.A (call (.ref f) us) (EP X pins σ Q) X.xe s:=by
 have r2:aM (vs++dvs) (us++ds):=r.append hd;have hl:(us++ds).length=ps.length:=by rw [<- r2.length]; exact F.len _ _ _ _ h
 refine wpAny_call (codeAny_mono (F.run X.A X.stack s H ⟨us,[]⟩ (us++ds) (vs++dvs) Q E hr I.env0 (hb s us I.kIn hl) r2 h) fun r s' hq=>?_);cases r with
 | error e=>exact hx pins σ H s e s' I hq
 | ok fl=>
  cases fl with
  | ret u=>exact I.after hq
  | next=>exact gz hq
  | brk=>exact gz hq
  | cont=>exact gz hq
theorem P0 (F:aU X.prog X.w X.K X.mg X.base CX k f fd ps sp) (hr:gG k X.A) (hg:Gl X x) (hm:X.mg x=some (.ref f)) (hk:bg X.K (.ref f)=true) (hb:Binds X.K fd ps ds) (hd:aM dvs ds) (hx:Fo CX X E)
  (ha:PA X (e :: es) t) (hdb:(x == ("__debug__" : Str))=false:=by decide) (he:cf (e :: es) X.env=(false,eval e X.env) :: cf es X.env:=by rfl) (hpl:(backTo pos (cf es X.env)).any (·.1)=false:=by rfl):
  PE X (.Call (.Name x p) (e :: es) [] pos) (RX sp dvs E t):=by
 intro pins s σ H Q I h;refine jc (uW I hg hm ?_ hdb);refine PySem.W.callWith_K (h₀:=X.base) I.ok.mod.kin hk (thn (ha pos pins s σ H _ I h) fun us s1 ⟨vs,H1,I1,r,q⟩=>⟨I1.kIn,?_⟩) he hpl;exact SU F hr hb hd hx I1 r q
structure Mk (K:af) (C f:Addr):Prop where
 makes:PySem.W.makesIn K C=true
 init:lp K (.ref C) "__init__" = some (some (.ref f))
 fn:PySem.W.isFn K (.ref f)=true
 kp:bg K (.ref C)=true
end
section
variable {X:Cx} {CX:CXT} {k:Nat} {f C:Addr} {fd:c3} {ps ks:List Str} {sp:Sp} {E:XK} {x m:Str} {p pos apos kpos:Pos} {e o:Expr} {es:List Expr} {kws:List Keyword} {te ta:TE} {t tk:TA} {nm:Option Str}
structure Xm (K:af) (fd:c3) (ps ks:List Str) (g:List Value->List Value->List Value) (gV:List V->List V->List V):Prop where
 to:∀ (s:Shared) (us ws:List Value),K.In s.heap->(g us ws).length=ps.length->BindsTo s fd ⟨us,ks.zip ws⟩ (ps.zip (g us ws))
 rel:∀ {vs:List V} {us:List Value} {zs:List V} {ws:List Value},aM vs us->aM zs ws->aM (gV vs zs) (g us ws)
variable {g:List Value->List Value->List Value} {gV:List V->List V->List V}
end
structure aV (N P:List Str) (sc:Scope):Prop where
 kind:sc.kind=.function
 co:sc.isCoroutine=false
 gen:sc.isGenerator=false
 nd:N.Nodup
 pre:N.take P.length=P
 par:∀ x∈P,sc.names.lookup x=some .local\/sc.names.lookup x=some .cell
 nofree:∀ y∈sc.names,y.2≠.free
theorem A1 {kindOf:Str->Option km} {x:Str}:∀ {binds:List (Str×Value)} {m:Str->Option Value},(∀ v,(x,v)∉binds)->bindL kindOf binds m x=m x
 | [],_,_=>rfl
 | (n,v) :: r,m,h=>by
  unfold bindL;rw [A1 fun w hw=>h w (ao _ hw)];split
  ·have:x≠n:=by rintro rfl; exact h v aj
   simp [this]
  ·rfl
theorem A2 {kindOf:Str->Option km} {x:Str}:∀ {binds:List (Str×Value)} {m:Str->Option Value},(∀ v,(x,v)∉binds)->bindC kindOf binds m x=m x
 | [],_,_=>rfl
 | (n,v) :: r,m,h=>by
  unfold bindC;rw [A2 fun w hw=>h w (ao _ hw)];split
  ·rfl
  ·have:x≠n:=by rintro rfl; exact h v aj
   simp [this]
theorem A3 {kindOf:Str->Option km} {x:Str} {v:Value}:∀ {P:List Str} {vs:List Value} {i:Nat} {m:Str->Option Value},P.Nodup->P[i]?=some x->vs[i]?=some v->kindOf x=some .local->
  bindL kindOf (P.zip vs) m x=some v
 | [],_,_,_,_,h,_,_=>by simp at h
 | _ :: _,[],_,_,_,_,h,_=>by simp at h
 | p :: P,w :: vs,0,m,nd,h1,h2,hk=>by
  simp at h1 h2; subst h1; subst h2
  show bindL kindOf ((p,w) :: P.zip vs) m p=_
  unfold bindL;rw [A1 fun v hv=>(fu.mp nd).1 (List.of_mem_zip hv).1,if_pos hk];simp
 | p :: P,w :: vs,i+1,m,nd,h1,h2,hk=>by
  show bindL kindOf ((p,w) :: P.zip vs) m x=_
  unfold bindL;exact A3 (i:=i) (fu.mp nd).2 (by simpa using h1) (by simpa using h2) hk
theorem A4 {kindOf:Str->Option km} {x:Str} {v:Value}:∀ {P:List Str} {vs:List Value} {i:Nat} {m:Str->Option Value},P.Nodup->P[i]?=some x->vs[i]?=some v->kindOf x≠some .local->
  bindC kindOf (P.zip vs) m x=some v
 | [],_,_,_,_,h,_,_=>by simp at h
 | _ :: _,[],_,_,_,_,h,_=>by simp at h
 | p :: P,w :: vs,0,m,nd,h1,h2,hk=>by
  simp at h1 h2; subst h1; subst h2
  show bindC kindOf ((p,w) :: P.zip vs) m p=_
  unfold bindC;rw [A2 fun v hv=>(fu.mp nd).1 (List.of_mem_zip hv).1,if_neg hk];simp
 | p :: P,w :: vs,i+1,m,nd,h1,h2,hk=>by
  show bindC kindOf ((p,w) :: P.zip vs) m x=_
  unfold bindC;exact A4 (i:=i) (fu.mp nd).2 (by simpa using h1) (by simpa using h2) hk
def start (N:List Str) (vs:List V):St:=vs.map some++cm (N.length - vs.length) none
def Fp (CX:CXT) (P:Program) (w:World) (K:af) (mg:Str->Option Value) (base:Heap) (N:List Str) (qual:Str) (scope:Scope) (f:Addr) (cd:Value) (A:Around) (outer:List Env) (s:Shared) (H:Hp) (E:XK):Cx where
 prog:=P
 w:=w
 K:=K
 mg:=mg
 base:=base
 A:=A.deeper (envOfC qual scope s.heap.objs.size f cd)
 N:=N
 s₀:=s
 H₀:=H
 env:=envOfC qual scope s.heap.objs.size f cd
 outer:=outer
 stack:=envOfC qual scope s.heap.objs.size f cd :: outer
 ex:=[]
 calm:=true
 fn:=fun _=>true
 pn:=[]
 xe:=fun e s'=>wpAny (model P w) (A.deeper (envOfC qual scope s.heap.objs.size f cd)) (leaving (envOfC qual scope s.heap.objs.size f cd) e) (fun _ s''=>CX outer H s E e s'') (fun e' s''=>CX outer H s E e' s'') s'
theorem D5 {sc:Scope} {n:Nat} {x:Str} (h:sc.names.lookup x=some .cell):∃ c,(d5 n sc.names []).lookup x=some c:=by
 have q:=PySem.W.cellsFrom_some sc.names n [] (.inl h);exact Option.isSome_iff_exists.mp q
theorem IX {CX:CXT} {P:Program} {w:World} {K:af} {mg:Str->Option Value} {base:Heap} {N ps:List Str} {qual:Str} {scope:Scope} {f:Addr} {cd:Value} {A:Around} {outer:List Env} {s s1:Shared} {H:Hp} {E:XK} {us:List Value} {vs:List V}
  (S:aV N ps scope) (hd:A.handled=none) (e0:Fm P w K mg base A outer s H) (hl:vs.length=ps.length) (r:aM vs us)
  (x:InCallC s s.heap.objs.size (bindL (envOfC qual scope s.heap.objs.size f cd).kindOf (ps.zip us) fun _=>none) (d5 (s.heap.objs.size+1) scope.names []) (bindC (envOfC qual scope s.heap.objs.size f cd).kindOf (ps.zip us) fun _=>none) s1):
  Inv (Fp CX P w K mg base N qual scope f cd A outer s H E) [] (start N vs) H s1:=by
 have hpl:ps.length<=N.length:=by have:=congrArg List.length S.pre; rw [d9] at this; omega
 obtain ⟨h1,tk,rfl,hk⟩:=x.done;have noA:∀ b:Addr,b∉(Fp CX P w K mg base N qual scope f cd A outer s H E).ex:=fun b z=>absurd (show b∈([]:List Addr) from z) (by simp)
 refine ⟨⟨e0.mod,S.kind,rfl,rfl,ai _,fun y z c h1 h2=>?_,fun y hy=>?_,fun y c _ h=>?_,fun _=>hd,Around.frames_deeper e0.frames,.inr ⟨rfl,rfl⟩,fun b z=>absurd z (noA b),e0.bs,e0.bsz,fun b _ _=>noA b,fun b z=>absurd z (noA b),e0.funs,e0.frf⟩,
  rfl,e0.bare,Un.kept hk,⟨_,x.toInCall.ns,fun i y v h1 h2 h3=>?_⟩,fun y c h=>⟨_,x.cell y c h⟩,e0.hok.fresh (ai _),fun y c h=>?_,fun p hp=>absurd (show p∈([]:List (Addr×Obj)) from hp) (by simp),e0.hok.kept hk,?_⟩
 ·exact name_of_addr x.apart (j6 h1) (j6 h2)
 ·have hy:scope.names.lookup y=some .cell\/scope.names.lookup y=some .free:=hy;rcases hy with hy | hy
  ·exact D5 hy
  ·exact absurd rfl (S.nofree _ (j6 hy))
 ·exact iy (x.above y c (j6 h))
 ·have hi:i < vs.length:=by
   unfold start at h2
   by_cases hi:i < vs.length
   ·exact hi
   ·rw [e9 (by simpa using hi)] at h2
    rw [List.getElem?_replicate] at h2;split at h2 <;> cases h2
  have ha:vs[i]?=some v:=by
   unfold start at h2;rw [dk (by simpa using hi),au] at h2
   cases e:vs[i]? with
   | none=>rw [e] at h2; cases h2
   | some a=>rw [e] at h2; cases h2; rfl
  obtain ⟨u,hu,rv⟩:=r.get ha;have hp:ps[i]?=some y:=by
   rw [<- S.pre,List.getElem?_take_of_lt (by omega)]; exact h1
  have ndP:ps.Nodup:=by rw [<- S.pre]; exact S.nd.sublist (List.take_sublist _ _)
  refine ⟨u,rv,?_⟩;rcases S.par y (cg hp) with k | k
  ·exact .inl ⟨k,A3 ndP hp hu k⟩
  ·obtain ⟨c,e⟩:=D5 (n:=s.heap.objs.size+1) k;refine .inr ⟨.inl k,c,e,?_⟩;have q:=x.cell y c e;rw [A4 ndP hp hu (by show scope.names.lookup y≠_; rw [k]; decide)] at q;exact q
 ·exact e0.hok.fresh (iy (x.above y c (j6 h)))
 ·unfold start
  show _=N.length
  rw [d7,ae,List.length_replicate];omega
theorem Ve {CX:CXT} {P:Program} {w:World} {K:af} {mg:Str->Option Value} {base:Heap} {k:Nat} {f:Addr} {name qual:Str} {params:Arguments} {body:List Stmt} {scope:Scope} {dV kV doc pm cdv ct oc:Value} {an od:Option Addr}
  {osl:Array (Option Value)} {N ps:List Str} {sp:Sp} (lk:K.lookup f=some ⟨oc,od,.func (bw name qual params body scope dV kV doc pm an cdv ct),osl⟩) (hcd:bq K cdv qual=true) (S:aV N ps scope)
  (len:∀ vs H Q E,sp vs H Q E->vs.length=ps.length)
  (hbody:∀ (A:Around) (outer:List Env) (s:Shared) (H:Hp) (vs:List V) (Q:VK) (E:XK),gG k (A.deeper (envOfC qual scope s.heap.objs.size f cdv))->sp vs H Q E->
   ∃ t,PSs (Fp CX P w K mg base N qual scope f cdv A outer s H E) body t/\t { nx:=fun _ H'=>Q .non H',rt:=Q } (start N vs) H):
  aU P w K mg base CX (k+1) f (bw name qual params body scope dV kV doc pm an cdv ct) ps sp:=by
 refine ⟨len,fun A outer s H args us vs Q E hr e0 hb r hsp=>?_⟩;have hl:=len _ _ _ _ hsp;have KX:K.In s.heap:=e0.mod.kin.keeps fun b o e=>(e0.bs b o e).1;have lim:s.heap.NoLimit:=e0.mod.nolimit.keeps fun b o e=>(e0.bs b o e).1;have hkind:∀ y∈ps.zip us,scope.names.lookup y.1=some .local\/(scope.names.lookup y.1=some .cell/\((d5 (s.heap.objs.size+1) scope.names []).lookup y.1).isSome=true):=fun ⟨n,v⟩ hy=>by
  rcases S.par n (List.of_mem_zip hy).1 with q | q
  ·exact .inl q
  ·exact .inr ⟨q,PySem.W.cellsFrom_some _ _ _ (.inl q)⟩
 refine codeAny_call_function hr.depth (KX _ _ lk) rfl S.co S.gen rfl (PySem.W.codeRec_of KX hcd) (hb _ _ _ _ ?_);refine wpAny_newFunctionEnv_cells S.kind hkind fun env he s1 x=>?_;subst he;refine ⟨lim.keeps x.toInCall.keep,codeAny_func ?_⟩;obtain ⟨t,ht,hq⟩:=hbody A outer s H vs Q E (hr.deeper _) hsp;have I:Inv (Fp CX P w K mg base N qual scope f cdv A outer s H E) [] (start N vs) H s1:=IX S hr.hd e0 hl r x;refine gx (ht [] s1 (start N vs) H _ I hq) (fun fl s' hs=>?_) fun e s' hs=>hs;have fin:∀ {σ':St} {H':Hp} {v:V} {u:Value},Inv (Fp CX P w K mg base N qual scope f cdv A outer s H E) [] σ' H' s'->RelV v u->Q v H'->CE outer P w H s Q u s':=
  fun {σ' H' v u} J rv q=>⟨v,H',J.os,J.bare,J.base,J.hok,rv,q⟩
 cases fl with
 | ret u=>
  obtain ⟨v,σ',H',J,rv,q⟩:=hs;exact fin J rv q
 | next=>
  obtain ⟨σ',H',J,q⟩:=hs;exact fin (v:=V.non) (u:=cx) J rfl q
 | brk=>
  obtain ⟨_,_,_,q⟩:=hs;exact gz q
 | cont=>
  obtain ⟨_,_,_,q⟩:=hs;exact gz q
section
variable {X:Cx} {x:Str} {p pos:Pos} {e:Expr} {es:List Expr} {t:TA} {id T:String} {r:List V->Hp->VK->Prop}
def tCB (r:List V->Hp->VK->Prop) (t:TA):TE:=fun σ H Q=>t σ H fun vs H1=>r vs H1 Q
theorem Ld (hc:bS X (.builtin id) r) (hg:Gl X x) (hm:X.mg x=none) (hv:mf x=some (.builtin id)) (ha:PA X (e :: es) t) (hn:x≠"__name__" := by decide) (hdb:(x == ("__debug__" : Str))=false:=by decide)
  (he:cf (e :: es) X.env=(false,eval e X.env) :: cf es X.env:=by rfl) (hpl:(backTo pos (cf es X.env)).any (·.1)=false:=by rfl):PE X (.Call (.Name x p) (e :: es) [] pos) (tCB r t):=by
 intro pins s σ H Q I h;refine jc (rK I hg hm hv ?_ hn hdb);exact PyProof.Rows.callWith_builtin1 (thn (ha pos pins s σ H _ I h) fun us s1 ⟨vs,H1,I1,r1,q1⟩=>hc pins s1 σ H1 vs us Q I1 r1 q1) he hpl
theorem IY (hc:bS X (.type T) r) (hg:Gl X x) (hm:X.mg x=none) (hv:mf x=some (.type T)) (ha:PA X (e :: es) t) (hn:x≠"__name__" := by decide) (hdb:(x == ("__debug__" : Str))=false:=by decide)
  (he:cf (e :: es) X.env=(false,eval e X.env) :: cf es X.env:=by rfl) (hpl:(backTo pos (cf es X.env)).any (·.1)=false:=by rfl):PE X (.Call (.Name x p) (e :: es) [] pos) (tCB r t):=by
 intro pins s σ H Q I h;refine jc (rK I hg hm hv ?_ hn hdb);exact PyProof.Rows.callWith_type1 (thn (ha pos pins s σ H _ I h) fun us s1 ⟨vs,H1,I1,r1,q1⟩=>hc pins s1 σ H1 vs us Q I1 r1 q1) he hpl
end
end L2
namespace HT
open PySem PyProof.Rows
section
variable {prog:Program} {w:World} {A:Around} {E:Value->Shared->Prop} {s:Shared}
theorem cat_tup {t b:Addr} {vs ws:List Value} {Q:Value->Shared->Prop} (ht:IsTup s.heap t vs.toArray) (hb:IsTup s.heap b ws.toArray) (hv:vs≠[])
  (h1:ws=[]->Q (.ref t) s) (h2:ws≠[]->Q (.ref s.heap.objs.size) { s with heap:=s.heap.push { cls:=.type "tuple",data:=.seq (vs++ws).toArray } })
  (hsz:vs.length+ws.length<=aw):wpAny (model prog w) A (ff .Add (.ref t) (.ref b)) Q E s:=by
 obtain ⟨⟨cls,dd,data,sl⟩,ho,hc,n,hd⟩:=id ht;obtain ⟨⟨cls2,dd2,data2,sl2⟩,ho2,hc2,n2,hd2⟩:=id hb;simp only at hc hd hc2 hd2;subst hc hd hc2 hd2;have e:vs.toArray++ws.toArray=(vs++ws).toArray:=by simp
 by_cases hw:ws=[]
 ·exact concat_meets ⟨_,ho,rfl⟩ ⟨_,ho2,rfl⟩ noFill_tuple_add seq_tuple_add PySem.F.slot_tuple_add PySem.F.entry_tuple_add (PySem.F.args_tuple_add_2 _ _)
   (tuple_addW1 t b vs.toArray ws.toArray n n2 dd dd2 sl sl2 (by simpa using hv) (by simp [hw])) ⟨ho,ho2,h1 hw⟩
 ·refine concat_meets ⟨_,ho,rfl⟩ ⟨_,ho2,rfl⟩ noFill_tuple_add seq_tuple_add PySem.F.slot_tuple_add PySem.F.entry_tuple_add (PySem.F.args_tuple_add_2 _ _)
   (tuple_addW2 t b vs.toArray ws.toArray n n2 dd dd2 sl sl2 (by simpa using hv) (by simpa using hw) (by rw [ar,ar]; exact hsz)) ⟨ho,ho2,?_⟩
  rw [e];exact h2 hw
def sIx (n d:Nat):Option Int->Nat
 | none=>d
 | some v=>if v < 0 then (v+(n:Int)).toNat else min v.toNat n
theorem Bg (n d k:Nat):sIx n d (some (k:Int))=min k n:=by
 show (if (k:Int) < 0 then ((k:Int)+(n:Int)).toNat else min (k:Int).toNat n)=min k n
 rw [if_neg (by omega),jq]
theorem SV (n d:Nat) (hd:d<=n) (o:Option Int):sIx n d o<=n:=by
 cases o with
 | none=>exact hd
 | some v=>
  show (if v < 0 then (v+(n:Int)).toNat else min v.toNat n)<=n
  by_cases hv:v < 0
  ·rw [if_pos hv]; omega
  ·rw [if_neg hv]; exact Nat.min_le_right _ _
theorem Hz (v:Int) (n d:Nat):(if v < 0 then max (v+(n:Int)) 0 else min v (n:Int))=((sIx n d (some v):Nat):Int):=by
 show (if v < 0 then max (v+(n:Int)) 0 else min v (n:Int))=(((if v < 0 then (v+(n:Int)).toNat else min v.toNat n):Nat):Int)
 by_cases hv:v < 0
 ·simp only [if_pos hv]; omega
 ·simp only [if_neg hv]; omega
theorem Fq (lo hi:Option Int) (n:Nat):lu lo hi 1 (n:Int)=(((sIx n 0 lo:Nat):Int),((sIx n n hi:Nat):Int)):=by
 have h1:¬ ((1:Int) < 0):=by omega
 unfold lu;simp only [h1,if_false];refine Prod.ext ?_ ?_
 ·cases lo with
  | none=>rfl
  | some v=>exact Hz v n 0
 ·cases hi with
  | none=>rfl
  | some v=>exact Hz v n n
theorem Fs (i j:Nat):jl (i:Int) (j:Int) 1=j - i:=by
 unfold jl;have h1:(1:Int) > 0:=by omega
 simp only [h1,if_true,Int.ediv_one];split <;> omega
theorem vM {v:Value} {o:Option Int} {Q:Option Int->Shared->Prop} (p:IsPart v o) (h:Q o s):wpAny (model prog w) A (Builtin.Slice.slicePartIndex v) Q E s:=by
 cases p with
 | none=>exact slicePart_none h
 | int i t=>exact slicePart_int h
theorem sliceApplied_gen {sl:Addr} {vl vu:Value} {lo hi:Option Int} {n:Nat} {Q:Int×Int×Nat->Shared->Prop} (hs:s.heap.IsSliceOf sl vl vu .none) (pl:IsPart vl lo) (pu:IsPart vu hi)
  (h:Q (((sIx n 0 lo:Nat):Int),1,sIx n n hi - sIx n 0 lo) s):wpAny (model prog w) A (Builtin.Slice.sliceApplied (.ref sl) (pure (n:Int))) Q E s:=by
 obtain ⟨os,hos,hcs,hds⟩:=id hs;unfold Builtin.Slice.sliceApplied Builtin.Slice.sliceFields;refine aa (aa (wpAny_field hos hds (x:=vl) rfl (aa (wpAny_field hos hds (x:=vu) rfl (aa (wpAny_field hos hds (x:=.none) rfl (ag ?_)))))));refine aa (slicePart_none ?_)
 show wpAny _ _ (if ((1:Int) == 0)=true then _ else _) _ _ s
 rw [if_neg (by decide)];refine aa (vM pl (aa (vM pu (aa (ag ?_)))))
 show wpAny _ _ (match lu lo hi 1 (n:Int) with | (lo,hi)=>pure (lo,(1:Int),jl lo hi 1)) _ _ s
 rw [Fq lo hi n]
 show wpAny _ _ (pure (((sIx n 0 lo:Nat):Int),(1:Int),jl ((sIx n 0 lo:Nat):Int) ((sIx n n hi:Nat):Int) 1)) _ _ s
 rw [Fs];exact ag h
theorem Le (xs:Array Value) (i k:Nat):((ba k).filterMap fun (m:Nat)=>xs[((i:Int)+(m:Int)*1).toNat]?).toArray=((xs.toList.drop i).take k).toArray:=by
 have e:(fun (m:Nat)=>xs[((i:Int)+(m:Int)*1).toNat]?)=fun m=>xs[i+m]?:=by
  funext m
  have:((i:Int)+(m:Int)*1).toNat=i+m:=by omega
  rw [this]
 rw [e];have:=pick_run xs i k;rw [List.filterMap_map] at this;have e2:((fun x=>xs[x]?) ∘ fun x=>i+x)=fun m=>xs[i+m]?:=rfl;rw [e2] at this;rw [this]
theorem getItem_tuple_cut {t sl:Addr} {items:Array Value} {vl vu:Value} {lo hi:Option Int} {Q:Value->Shared->Prop} (ht:IsTup s.heap t items) (hs:s.heap.IsSliceOf sl vl vu .none) (pl:IsPart vl lo) (pu:IsPart vu hi)
  (hw:¬ (sIx items.size 0 lo=0/\sIx items.size items.size hi=items.size))
  (h:Q (.ref s.heap.objs.size) { s with heap:=s.heap.push { cls:=.type "tuple",data:=.seq ((items.toList.drop (sIx items.size 0 lo)).take (sIx items.size items.size hi - sIx items.size 0 lo)).toArray } })
  (hsz:items.size<=aw):wpAny (model prog w) A (getItem (.ref t) (.ref sl)) Q E s:=by
 have htake:sizeOk (.seq ((items.toList.drop (sIx items.size 0 lo)).take (sIx items.size items.size hi - sIx items.size 0 lo)).toArray):=by
  show ((items.toList.drop (sIx items.size 0 lo)).take (sIx items.size items.size hi - sIx items.size 0 lo)).toArray.size<=aw
  rw [ar,d9,List.length_drop,dz];omega
 have hj:sIx items.size items.size hi<=items.size:=SV _ _ (ai _) hi;obtain ⟨os,hos,hcs,hds⟩:=id hs;have hTs:s.TypeIs (.ref sl) "slice" := ⟨os,hos,hcs⟩;unfold getItem
 try with_reducible refine dg ?_
 first | refine aa (ag ?_) | skip
 refine aa (wpAny_sequenceKey ht.typeIs (by decide) ?_);refine aa (j7 (name:=j3 "__getitem__") ht.typeIs dr
  (ja dr ht.typeIs entry_tuple_getitem ?_ (args_tuple_getitem _ _)))
 show wpAny _ _ (k9 (.ref t) >>= _) _ _ s
 refine aa (tupleItemsOf_ ht ?_);refine aa (mj hTs ?_);rw [if_pos (by decide)];refine aa (sliceApplied_gen hs pl pu ?_);have hno:¬ ((((sIx items.size 0 lo:Nat):Int) == 0 && (1:Int) == 1 && (sIx items.size items.size hi - sIx items.size 0 lo) == items.size)=true):=by
  intro q;rw [cq,cq] at q;have q1:((sIx items.size 0 lo:Nat):Int)=0:=eq_of_beq q.1.1;have q2:sIx items.size items.size hi - sIx items.size 0 lo=items.size:=eq_of_beq q.2;exact hw ⟨by omega,by omega⟩
 show wpAny _ _ (if (((sIx items.size 0 lo:Nat):Int) == 0 && (1:Int) == 1 && (sIx items.size items.size hi - sIx items.size 0 lo) == items.size)=true then _ else _) _ _ s
 rw [if_neg hno,Le]
 first
  | exact aa (m:=jr _) (ft (ag ⟨_,rfl,ag h⟩) htake)
  | exact aa (m:=jr _) (ft (aa (ag (ag ⟨_,rfl,ag h⟩))) htake)
  | exact aa (aa (m:=jr _) (ft (ag (ag ⟨_,rfl,ag h⟩)) htake))
  | exact aa (aa (m:=jr _) (ft (ag ⟨_,rfl,ag h⟩) htake))
end
end HT
namespace L2
open PySem PySem.Spec PyProof.Rows
abbrev TO:=St->Hp->(Option Int->Hp->Prop)->Prop
def PO (X:Cx) (e:Option Expr) (t:TO):Prop:=
 ∀ (pins:List (Addr×Obj)) (s:Shared) (σ:St) (H:Hp) (Q:Option Int->Hp->Prop),Inv X pins σ H s->t σ H Q->
  wpAny (model X.prog X.w) X.A (evalPart e X.env) (fun u s'=>∃ o H',Inv X pins σ H' s'/\IsPart u o/\Q o H') X.xe s
def P1:TO:=fun _ H Q=>Q none H
theorem intsAre_of {ns:List Int}:∀ {us:List Value},aM (ns.map V.int) us->IntsAre us ns:=by
 induction ns with
 | nil=>intro us r; rw [List.map_nil] at r; cases r; exact .nil
 | cons n ns ih=>
  intro us r;rw [ay] at r;cases r with
  | cons r1 r2=>
   obtain ⟨t,e⟩:=r1;subst e;exact .cons n t (ih r2)
section
variable {X:Cx} {e:Expr} {te:TE} {lo hi:Option Expr} {tl th:TO} {pos p2:Pos}
theorem P2:PO X none P1:=by
 intro pins s σ H Q I h;rw [evalPart_none];exact ag ⟨none,H,I,.none,h⟩
def SlR (X:Cx) (r:V->Option Int->Option Int->Hp->VK->Prop):Prop:=
 ∀ (pins:List (Addr×Obj)) (s:Shared) (σ:St) (H:Hp) (x:V) (v vl vu:Value) (lo hi:Option Int) (sl:Addr) (Q:VK),Inv X pins σ H s->RelV x v->s.heap.IsSliceOf sl vl vu .none->IsPart vl lo->IsPart vu hi->r x lo hi H Q->
  ∃ T id,typeLookup (.type T) "__getitem__" = pure (some (.builtin id))/\s.TypeIs v T/\wpAny (model X.prog X.w) X.A (getItem v (.ref sl)) (EP X pins σ Q) X.xe s
theorem SlR.or {r r':V->Option Int->Option Int->Hp->VK->Prop} (h:SlR X r) (h':SlR X r'):SlR X (fun x lo hi H Q=>r x lo hi H Q\/r' x lo hi H Q):=by
 intro pins s σ H x v vl vu lo hi sl Q I rx hs pl pu q;rcases q with q | q
 ·exact h pins s σ H x v vl vu lo hi sl Q I rx hs pl pu q
 ·exact h' pins s σ H x v vl vu lo hi sl Q I rx hs pl pu q
def tSl (r:V->Option Int->Option Int->Hp->VK->Prop) (te:TE) (tl th:TO):TE:=fun σ H Q=>te σ H fun x H1=>tl σ H1 fun l H2=>th σ H2 fun u H3=>r x l u H3 Q
theorem Lf {r:V->Option Int->Option Int->Hp->VK->Prop} (hr:SlR X r) (he:PE X e te) (hl:PO X lo tl) (hu:PO X hi th):PE X (.Subscript e (.Slice lo hi none p2) pos) (tSl r te tl th):=by
 intro pins s σ H Q I h;refine Subscript_ (thn (he pins s σ H _ I h) fun v s1 hz=>?_);obtain ⟨x,H1,I1,r1,q1⟩:=hz;refine wpAny_Slice (thn (hl pins s1 σ H1 _ I1 q1) fun vl s2 ⟨l,H2,I2,pl,q2⟩=>thn (hu pins s2 σ H2 _ I2 q2) fun vu s3 hz=>?_);obtain ⟨u,H3,I3,pu,q3⟩:=hz;rw [evalPart_none];refine ag ?_;have I4:Inv X pins σ H3 { s3 with heap:=s3.heap.push { cls:=.type "slice",data:=.fields #[vl,vu,.none] } }:=I3.kept (t':=s3.toks) fun b ob q=>ah _ q;obtain ⟨T,id,hT,ht,hg⟩:=hr pins { s3 with heap:=s3.heap.push { cls:=.type "slice",data:=.fields #[vl,vu,.none] } } σ H3 x v vl vu l u s3.heap.objs.size Q I4 r1 (Heap.IsSliceOf.new ..) pl pu q3
 show wpAny (model X.prog X.w) X.A (subscriptTail e (.Slice lo hi none p2) v (.ref s3.heap.objs.size)) (EP X pins σ Q) X.xe { s3 with heap:=s3.heap.push { cls:=.type "slice",data:=.fields #[vl,vu,.none] } }
 exact tail_any (ops:=[.ref s3.heap.objs.size,v]) ht hT hg (by with_unfolding_all rfl)
def D6 (xs:List V) (lo hi:Option Int):List V:=(xs.drop (HT.sIx xs.length 0 lo)).take (HT.sIx xs.length xs.length hi - HT.sIx xs.length 0 lo)
theorem tN (xs:List V) (lo hi:Option Int):(D6 xs lo hi).length<=xs.length:=by
 unfold D6;rw [d9,List.length_drop];omega
def Vf (K:af):V->Option Int->Option Int->Hp->VK->Prop:=fun x lo hi H Q=>∃ a xs,x=.ref a/\SqT K H a xs/\
 ¬ (HT.sIx xs.length 0 lo=0/\HT.sIx xs.length xs.length hi=xs.length)/\∀ p,H p=none->Q (.ref p) (upd H p (.tup (D6 xs lo hi)))
theorem SX:SlR X (Vf X.K):=by
 intro pins s σ H x v vl vu lo hi sl Q I rx hs pl pu h;obtain ⟨a,xs,rfl,hx,hw,q⟩:=h;cases rx
 obtain ⟨its,r,ht,hz⟩:=I.tuple hx;have hlen:its.toArray.size=xs.length:=by rw [ar]; exact r.length.symm
 refine ⟨"tuple",_,dr.lookup,ht.typeIs,?_⟩;refine HT.getItem_tuple_cut ht hs pl pu (by rw [hlen]; exact hw) ?_ (by rw [hlen]; exact hz);rw [hlen];refine ⟨.ref s.heap.objs.size,_,I.laid (t':=s.toks) (o:=.tup (D6 xs lo hi)) (fun b ob q=>ah _ q) (ai _) ?_,rfl,q _ (I.hok.fresh (ai _))⟩;exact ⟨c4 (tN xs lo hi) hz,_,(r.drop (HT.sIx xs.length 0 lo)).take (HT.sIx xs.length xs.length hi - HT.sIx xs.length 0 lo),oZ.new _ _⟩
def RY (K:af):R2:=fun x y H Q=>∃ a b xs ys,x=.ref a/\y=.ref b/\SqT K H a xs/\SqT K H b ys/\xs≠[]/\xs.length+ys.length<=aw/\
 (ys=[]->Q (.ref a) H)/\(ys≠[]->∀ p,H p=none->Q (.ref p) (upd H p (.tup (xs++ys))))
theorem aM.nil_iff {xs:List V} {us:List Value} (r:aM xs us):us=[] ↔ xs=[]:=by
 cases r with
 | nil=>simp
 | cons _ _=>simp
theorem P3:OpR X (ff .Add) (RY X.K):=by
 intro pins s σ H x y v u Q I rx ry h;obtain ⟨a,b,xs,ys,rfl,rfl,ha,hb,hx,hz,q1,q2⟩:=h;cases rx
 cases ry
 obtain ⟨its,r1,p1,_⟩:=I.tuple ha;obtain ⟨its2,r2,p2,_⟩:=I.tuple hb;refine HT.cat_tup p1 p2 (fun z=>hx (r1.nil_iff.mp z)) (fun z=>⟨.ref a,H,I,rfl,q1 (r2.nil_iff.mp z)⟩) (fun z=>?_) (by rw [<- r1.length,<- r2.length]; exact hz);refine ⟨.ref s.heap.objs.size,_,I.laid (t':=s.toks) (o:=.tup (xs++ys)) (fun b ob q=>ah _ q) (ai _) ?_,rfl,q2 (fun w=>z (r2.nil_iff.mpr w)) _ (I.hok.fresh (ai _))⟩;exact ⟨by rw [d7]; exact hz,_,r1.append r2,oZ.new _ _⟩
end
def ixN (n:Nat) (i:Int):Option Nat:=if 0<=i then (if i < n then some i.toNat else none) else if -(n:Int)<=i then some (i+n).toNat else none
def atI {α:Type} (xs:List α) (i:Int):Option α:=(ixN xs.length i).bind fun j=>xs[j]?
theorem HA {n:Nat} {i:Int} {j:Nat} (h:ixN n i=some j):seqIndex? i n=some j/\j < n/\-(n:Int)<=i/\i < n:=by
 unfold ixN at h
 by_cases h0:0<=i
 ·rw [if_pos h0] at h
  by_cases h1:i < n
  ·rw [if_pos h1] at h;have e:i.toNat=j:=bh h;exact ⟨by rw [seqIndex_of h0 h1,e],by omega,by omega,h1⟩
  ·rw [if_neg h1] at h; cases h
 ·rw [if_neg h0] at h
  by_cases h1:-(n:Int)<=i
  ·rw [if_pos h1] at h;have e:(i+n).toNat=j:=bh h;exact ⟨by rw [seqIndex_neg (by omega) h1,e],by omega,h1,by omega⟩
  ·rw [if_neg h1] at h; cases h
theorem Bh {α:Type} {xs:List α} {i:Int} {v:α} (h:atI xs i=some v):∃ j,seqIndex? i xs.length=some j/\xs[j]?=some v/\j < xs.length/\-(xs.length:Int)<=i/\i < xs.length:=by
 unfold atI at h;cases e:ixN xs.length i with
 | none=>rw [e] at h; cases h
 | some j=>
  rw [e] at h;obtain ⟨h1,h2,h3,h4⟩:=HA e;exact ⟨j,h1,h,h2,h3,h4⟩
def HB (b:Expr):Prop:=∀ o i,subscripted b false o i=operate [o,i] (getItem o i)
def IxR (X:Cx) (r:R2):Prop:=
 ∀ (value slice:Expr) (pins:List (Addr×Obj)) (s:Shared) (σ:St) (H:Hp) (x y:V) (v u:Value) (Q:VK),Inv X pins σ H s->RelV x v->RelV y u->r x y H Q->
  subscripted slice false v u=operate [v,u] (getItem v u)->wpAny (model X.prog X.w) X.A (subscriptTail value slice v u) (EP X pins σ Q) X.xe s
def MtR (X:Cx) (id:String) (r:V->List V->Hp->VK->Prop):Prop:=
 ∀ (pins:List (Addr×Obj)) (s:Shared) (σ:St) (H:Hp) (x:V) (xs:List V) (v:Value) (us:List Value) (Q:VK),Inv X pins σ H s->RelV x v->aM xs us->r x xs H Q->
  wpAny (model X.prog X.w) X.A (call (.builtin id) (v :: us)) (EP X pins σ Q) X.xe s
section
variable {X:Cx} {a b:Expr} {ta tb:TE} {pos:Pos}
theorem IxR.or {r r':R2} (h:IxR X r) (h':IxR X r'):IxR X (fun x y H Q=>r x y H Q\/r' x y H Q):=by
 intro value slice pins s σ H x y v u Q I rx ry q hs;rcases q with q | q
 ·exact h value slice pins s σ H x y v u Q I rx ry q hs
 ·exact h' value slice pins s σ H x y v u Q I rx ry q hs
theorem Vg {r:R2} (hr:IxR X r) (ha:PE X a ta) (hb:PE X b tb) (hs:HB b):PE X (.Subscript a b pos) (tOp r ta tb):=by
 intro pins s σ H Q I h;exact Subscript_ (SC ha hb I h fun v u s2 x y H2 I2 rx ry q=>hr a b pins s2 σ H2 x y v u Q I2 rx ry q (hs _ _))
def Xn (K:af):R2:=fun x y H Q=>∃ p xs i v,x=.ref p/\y=.int i/\SqL K H p xs/\atI xs i=some v/\Q v H
def Xo (K:af):R2:=fun x y H Q=>∃ p xs i v,x=.ref p/\y=.int i/\SqT K H p xs/\atI xs i=some v/\Q v H
def Xp:R2:=fun x y H Q=>∃ z i c,x=.str z/\y=.int i/\z.length<=aw/\atI z.cps.toList i=some c/\Q (.str ⟨#[c]⟩) H
theorem P4:IxR X (Xn X.K):=by
 intro value slice pins s σ H x y v u Q I rx ry h hs;obtain ⟨p,xs,i,z,rfl,rfl,hq,he,q⟩:=h;cases rx
 obtain ⟨t,rfl⟩:=ry;obtain ⟨its,r,pl,hz⟩:=I.list hq;obtain ⟨j,h1,h2,h3,h4,h5⟩:=Bh he;obtain ⟨w,ew,rw'⟩:=r.get h2;have hl:=r.length;have hn:=nR;have fin:EP X pins σ Q w s:=⟨z,H,I,rw',q⟩
 by_cases h0:0<=i
 ·have hj:i.toNat=j:=by
   rw [seqIndex_of h0 h5] at h1;exact bh h1
  exact item_listR pl.isList h0 (by omega) (by rw [hj]; simpa using ew) fin hs
 ·have hj:(i+(its.toArray.size:Int)).toNat=j:=by
   rw [seqIndex_neg (by omega) h4] at h1;rw [ar,<- hl];exact bh h1
  exact subscriptTail_builtinR (x:=w) pl.isList.typeIs slot_list_getitem.lookup
   (wpAny_getItem_list_neg (Q:=fun r s'=>r=w/\EP X pins σ Q r s') pl.isList (by omega) (by rw [ar] <;> omega) (by omega) (by rw [hj]; simpa using ew) ⟨rfl,fin⟩) hs
theorem SY:IxR X (Xo X.K):=by
 intro value slice pins s σ H x y v u Q I rx ry h hs;obtain ⟨p,xs,i,z,rfl,rfl,hq,he,q⟩:=h;cases rx
 obtain ⟨t,rfl⟩:=ry;obtain ⟨its,r,pl,hz⟩:=I.tuple hq;obtain ⟨j,h1,h2,h3,h4,h5⟩:=Bh he;obtain ⟨w,ew,rw'⟩:=r.get h2;have hl:=r.length;have hn:=nR;have fin:EP X pins σ Q w s:=⟨z,H,I,rw',q⟩;exact subscriptTail_builtinR (x:=w) pl.typeIs slot_tuple_getitem.lookup
  (getItem_tuple (j:=j) (Q:=fun r s'=>r=w/\EP X pins σ Q r s') pl (by omega) (by omega) (by rw [ar,<- hl]; exact h1) (by simpa using ew) ⟨rfl,fin⟩) hs
theorem SZ:IxR X Xp:=by
 intro value slice pins s σ H x y v u Q I rx ry h hs;obtain ⟨z,i,c,rfl,rfl,hz,he,q⟩:=h;obtain ⟨t,rfl⟩:=rx;obtain ⟨t',rfl⟩:=ry;obtain ⟨j,h1,h2,h3,h4,h5⟩:=Bh he;have hl:z.cps.toList.length=z.length:=by simp [Str.length]
 rw [hl] at h1 h4 h5;have hn:=nR;exact tail_any (typeIs_str s z t) slot_str_getitem.lookup (getItem_str (c:=c) (by
  have e1:decide (i < -(2 ^ 63:Int))=false:=decide_eq_false (by omega);have e2:decide (i >= 2 ^ 63)=false:=decide_eq_false (by omega);rw [e1,e2,Bool.or_false]) (by rw [h1]; simpa using h2) ⟨.str ⟨#[c]⟩,H,I.tok _,⟨_,rfl⟩,q⟩) hs
theorem Ft (its:List Value) (n j:Nat) (u:Value):cy (·.setIfInBounds j u) { cls:=.type "list",data:=.seq its.toArray n }={ cls:=.type "list",data:=.seq (its.set j u).toArray n }:=by
 simp [cy]
theorem Inv.lst {pins:List (Addr×Obj)} {σ:St} {H:Hp} {s:Shared} {p:Addr} {xs:List V} (I:Inv X pins σ H s) (h:H p=some (.lst xs)):
  ∃ (its:List Value) (n:Nat),aM xs its/\s.heap.get? p=some { cls:=.type "list",data:=.seq its.toArray n }/\xs.length<=aw:=by
 obtain ⟨z,its,n,r,e⟩:=I.hok p _ h;exact ⟨its,n,r,e,z⟩
theorem Inv.lstUpd {pins:List (Addr×Obj)} {σ:St} {H:Hp} {s:Shared} {p:Addr} {xs ys:List V} {its its':List Value} {n n':Nat} {f:Obj->Obj} (I:Inv X pins σ H s) (h:H p=some (.lst xs))
  (ho:s.heap.get? p=some { cls:=.type "list",data:=.seq its.toArray n }) (hf:f { cls:=.type "list",data:=.seq its.toArray n }={ cls:=.type "list",data:=.seq its'.toArray n' }) (r:aM ys its') (hz:ys.length<=aw) (t:Nat):
  Inv X pins σ (upd H p (.lst ys)) { s with heap:=s.heap.update p f,toks:=t }:=by
 have e:(s.heap.update p f).get? p=some { cls:=.type "list",data:=.seq its'.toArray n' }:=by
  rw [kr f ho (by rw [hf] <;> rfl),hf]
 refine I.write (x:=p) (e:=p) (by rw [h]; trivial) (.inl rfl) (fun b u hb q=>(Heap.get?_update_other _ _ (j5 hb)).trans q) ⟨_,e⟩ ?_;exact ⟨hz,its',n',r,e⟩
def Vh:V->V->V->Hp->(Hp->Prop)->Prop:=fun o i v H Q=>∃ p xs k j,o=.ref p/\i=.int k/\H p=some (.lst xs)/\ixN xs.length k=some j/\Q (upd H p (.lst (xs.set j v)))
theorem set_list:Xf X Vh:=by
 intro pins s σ H o i v ov iv u Q I ro ri rv h;obtain ⟨p,xs,k,j,rfl,rfl,hp,hj,q⟩:=h;cases ro
 obtain ⟨t,rfl⟩:=ri;obtain ⟨its,n,r,ho,hz⟩:=I.lst hp;obtain ⟨h1,h2,h3,h4⟩:=HA hj;have hl:=r.length;have hn:=nR;have I':Inv X pins σ (upd H p (.lst (xs.set j v))) { s with heap:=s.heap.update p (cy (·.setIfInBounds j u)) }:=
  I.lstUpd hp ho (Ft its n j u) (r.set rv j) (by rw [ig]; exact hz) s.toks
 by_cases h0:0<=k
 ·have hk:k.toNat=j:=by
   rw [seqIndex_of h0 h4] at h1;exact bh h1
  exact PySem.W.ki_setAt ho h0 (by omega) (by rw [ar,<- hl]; exact h4) (by rw [hk]; exact ⟨_,I',q⟩)
 ·have hk:(k+(its.toArray.size:Int)).toNat=j:=by
   rw [seqIndex_neg (by omega) h3] at h1;rw [ar,<- hl];exact bh h1
  exact PySem.W.ki_setBack ho (by omega) (by rw [ar,<- hl]; exact h3) (by omega) (by rw [hk]; exact ⟨_,I',q⟩)
theorem Bi (lo hi:Option Int) (n:Nat):(sliceBounds lo hi none n).1=((HT.sIx n 0 lo:Nat):Int)/\(sliceBounds lo hi none n).2.1=((HT.sIx n n hi:Nat):Int)/\(sliceBounds lo hi none n).2.2=1:=by
 refine ⟨?_,?_,rfl⟩
 ·cases lo with
  | none=>simp [sliceBounds,HT.sIx]
  | some i=>
   simp only [sliceBounds,HT.sIx,Option.getD_none,show (1:Int) > 0 by decide,if_true]
   by_cases h:i < 0
   ·simp only [h,if_true] <;> omega
   ·simp only [h,if_false] <;> omega
 ·cases hi with
  | none=>simp [sliceBounds,HT.sIx]
  | some i=>
   simp only [sliceBounds,HT.sIx,Option.getD_none,show (1:Int) > 0 by decide,if_true]
   by_cases h:i < 0
   ·simp only [h,if_true] <;> omega
   ·simp only [h,if_false] <;> omega
theorem zF (its:List Value) (lo hi:Option Int):slicePick its.toArray lo hi none=((its.drop (HT.sIx its.length 0 lo)).take (HT.sIx its.length its.length hi - HT.sIx its.length 0 lo)).toArray:=by
 obtain ⟨h1,h2,h3⟩:=Bi lo hi its.toArray.size;unfold slicePick;rw [h1,h2,h3];simp only [sliceRange_one,pick_run,ar] <;> rfl
def Vi (K:af):V->Option Int->Option Int->Hp->VK->Prop:=fun x lo hi H Q=>∃ a xs,x=.ref a/\SqL K H a xs/\∀ p,H p=none->Q (.ref p) (upd H p (.lst (D6 xs lo hi)))
theorem P5:SlR X (Vi X.K):=by
 intro pins s σ H x v vl vu lo hi sl Q I rx hs pl pu h;obtain ⟨a,xs,rfl,hx,q⟩:=h;cases rx
 obtain ⟨its,r,ht,hz⟩:=I.list hx;have hlen:=r.length;refine ⟨"list",_,slot_list_getitem.lookup,ht.isList.typeIs,?_⟩;refine wpAny_getItem_list_slice ht.isList hs pl pu .none (by simp) ?_ (by rw [ar] <;> omega);rw [zF,<- hlen];refine ⟨.ref s.heap.objs.size,_,I.laid (t':=s.toks) (o:=.lst (D6 xs lo hi)) (fun b ob q=>ah _ q) (ai _) ?_,rfl,q _ (I.hok.fresh (ai _))⟩;exact ⟨c4 (tN xs lo hi) hz,_,0,(r.drop (HT.sIx xs.length 0 lo)).take (HT.sIx xs.length xs.length hi - HT.sIx xs.length 0 lo),a8 _ rfl⟩
def tO:V->Bool
 | .non=>true
 | .bl _=>true
 | .int _=>true
 | .str _=>true
 | _=>false
def eqV:V->V->Bool
 | .non,.non=>true
 | .bl a,.bl b=>a == b
 | .bl a,.int b=>(if a then 1 else 0) == b
 | .int a,.bl b=>a == (if b then 1 else 0)
 | .int a,.int b=>a == b
 | .str a,.str b=>a == b
 | _,_=>false
theorem T1 {A:Around} {s:Shared} {y x:V} {u v:Value} (ry:RelV y u) (rx:RelV x v) (fy:tO y=true) (fx:tO x=true):SeqAt.EqAt A s u v (eqV y x):=by
 cases y with
 | non=>
  cases ry
  cases x with
  | non=>cases rx; exact SeqAt.EqAt.same _
  | bl b=>cases rx; exact SeqAt.EqAt.none_bool b
  | int b=>obtain ⟨t,rfl⟩:=rx; exact SeqAt.EqAt.none_int b t
  | str b=>obtain ⟨t,rfl⟩:=rx; exact SeqAt.EqAt.none_str b t
  | _=>exact absurd (show false=true from fx) bz
 | bl a=>
  cases ry
  cases x with
  | non=>cases rx; exact SeqAt.EqAt.bool_none a
  | bl b=>cases rx; exact SeqAt.EqAt.bool_bool a b
  | int b=>obtain ⟨t,rfl⟩:=rx; exact SeqAt.EqAt.bool_int a b t
  | str b=>obtain ⟨t,rfl⟩:=rx; exact SeqAt.EqAt.bool_str a b t
  | _=>exact absurd (show false=true from fx) bz
 | int a=>
  obtain ⟨t',rfl⟩:=ry;cases x with
  | non=>cases rx; exact SeqAt.EqAt.int_none a t'
  | bl b=>cases rx; exact SeqAt.EqAt.int_bool a t' b
  | int b=>obtain ⟨t,rfl⟩:=rx; exact SeqAt.EqAt.int_int a t' b t
  | str b=>obtain ⟨t,rfl⟩:=rx; exact SeqAt.EqAt.int_str a t' b t
  | _=>exact absurd (show false=true from fx) bz
 | str a=>
  obtain ⟨t',rfl⟩:=ry;cases x with
  | non=>cases rx; exact SeqAt.EqAt.str_none a t'
  | bl b=>cases rx; exact SeqAt.EqAt.str_bool a t' b
  | int b=>obtain ⟨t,rfl⟩:=rx; exact SeqAt.EqAt.str_int a t' b t
  | str b=>obtain ⟨t,rfl⟩:=rx; exact SeqAt.EqAt.str_str a t' b t
  | _=>exact absurd (show false=true from fx) bz
 | _=>exact absurd (show false=true from fy) bz
def eqU (x:V) (u:Value):Bool:=match u with
 | .none=>eqV .non x
 | .bool b=>eqV (.bl b) x
 | .int i _=>eqV (.int i) x
 | .str z _=>eqV (.str z) x
 | _=>false
theorem Lg {x y:V} {u:Value} (r:RelV y u) (f:tO y=true):eqU x u=eqV y x:=by
 cases y with
 | non=>cases r; rfl
 | bl b=>cases r; rfl
 | int i=>obtain ⟨t,rfl⟩:=r; rfl
 | str z=>obtain ⟨t,rfl⟩:=r; rfl
 | _=>exact absurd (show false=true from f) bz
theorem pA {x:V}:∀ {xs:List V} {us:List Value},aM xs us->xs.all tO=true->us.any (eqU x)=xs.any fun y=>eqV y x
 | _,_,.nil,_=>rfl
 | y :: xs,u :: us,.cons r t,f=>by
  rw [ib,cq] at f;rw [j8,j8,Lg r f.1,pA t f.2]
theorem kK {A:Around} {s:Shared} {x:V} {v:Value} (rx:RelV x v) (fx:tO x=true):∀ {xs:List V} {us:List Value},aM xs us->xs.all tO=true->∀ u∈us,SeqAt.EqAt A s u v (eqU x u)
 | _,_,.nil,_=>fun u hu=>by cases hu
 | y :: xs,u :: us,.cons r t,f=>fun u' hu=>by
  rw [ib,cq] at f;rcases bc.mp hu with rfl | hu
  ·rw [Lg r f.1]; exact T1 r rx f.1 fx
  ·exact kK rx fx t f.2 u' hu
def inV (x:V) (xs:List V):Bool:=xs.any fun y=>eqV y x
def rIn (K:af) (neg:Bool):R2:=fun x y H Q=>∃ p xs,y=.ref p/\(SqL K H p xs\/SqT K H p xs)/\tO x=true/\xs.all tO=true/\Q (.bl (if neg then !inV x xs else inV x xs)) H
theorem IZ:OpR X (cu .In) (rIn X.K false):=by
 intro pins s σ H x y v u Q I rx ry h;obtain ⟨p,xs,rfl,hq,fx,fs,q⟩:=h;cases ry
 rcases hq with hq | hq
 ·obtain ⟨its,r,pl,hz⟩:=I.list hq;refine SeqAt.in_listAt (eqU x) pl.isList (fun w hw=>kK rx fx r fs w (by simpa using hw)) ⟨.bl _,H,I,rfl,?_⟩
  rw [show its.toArray.any (eqU x)=its.any (eqU x) by simp,pA r fs];exact q
 ·obtain ⟨its,r,pl,hz⟩:=I.tuple hq;refine SeqAt.in_tupleAt (eqU x) pl (fun w hw=>kK rx fx r fs w (by simpa using hw)) ⟨.bl _,H,I,rfl,?_⟩
  rw [show its.toArray.any (eqU x)=its.any (eqU x) by simp,pA r fs];exact q
theorem Bj:OpR X (cu .NotIn) (rIn X.K true):=by
 intro pins s σ H x y v u Q I rx ry h;obtain ⟨p,xs,rfl,hq,fx,fs,q⟩:=h;cases ry
 rcases hq with hq | hq
 ·obtain ⟨its,r,pl,hz⟩:=I.list hq;refine SeqAt.notIn_listAt (eqU x) pl.isList (fun w hw=>kK rx fx r fs w (by simpa using hw)) ⟨.bl _,H,I,rfl,?_⟩
  rw [show its.toArray.any (eqU x)=its.any (eqU x) by simp,pA r fs];exact q
 ·obtain ⟨its,r,pl,hz⟩:=I.tuple hq;refine SeqAt.notIn_tupleAt (eqU x) pl (fun w hw=>kK rx fx r fs w (by simpa using hw)) ⟨.bl _,H,I,rfl,?_⟩
  rw [show its.toArray.any (eqU x)=its.any (eqU x) by simp,pA r fs];exact q
theorem Bk:bS X (.builtin "len") (fun xs H Q=>∃ p ys,xs=[.ref p]/\(SqL X.K H p ys\/SqT X.K H p ys)/\Q (.int ys.length) H):=by
 intro pins s σ H xs us Q I r h;obtain ⟨p,ys,rfl,hq,q⟩:=h;obtain ⟨u,rfl,rx⟩:=vals1 r;cases rx
 have hn:=nR;rcases hq with hq | hq
 ·obtain ⟨its,r',pl,hz⟩:=I.list hq;have hlen:=r'.length;exact Calls.call_len_list pl.isList (by simp only [ar] <;> omega) ⟨.int ys.length,H,I.tok _,⟨s.toks+1,by rw [ar,hlen]⟩,q⟩
 ·obtain ⟨its,r',pl,hz⟩:=I.tuple hq;have hlen:=r'.length;exact len_tuple pl (by simp only [ar] <;> omega) ⟨.int ys.length,H,I.tok _,⟨s.toks+1,by rw [ar,hlen]⟩,q⟩
theorem bS.or {f:Value} {r r':List V->Hp->VK->Prop} (h:bS X f r) (h':bS X f r'):bS X f (fun xs H Q=>r xs H Q\/r' xs H Q):=by
 intro pins s σ H xs us Q I rs q;rcases q with q | q
 ·exact h pins s σ H xs us Q I rs q
 ·exact h' pins s σ H xs us Q I rs q
theorem Bl:bS X (.type "list") (fun xs H Q=>∃ p ys,xs=[.ref p]/\(SqL X.K H p ys\/SqT X.K H p ys)/\∀ l,H l=none->Q (.ref l) (upd H l (.lst ys))):=by
 intro pins s σ H xs us Q I r h;obtain ⟨p,ys,rfl,hq,q⟩:=h;obtain ⟨u,rfl,rx⟩:=vals1 r;cases rx
 have fin:∀ (its:List Value),aM ys its->ys.length<=aw->∀ (h':Heap) (c':Nat),(∀ b o',s.heap.get? b=some o'->h'.get? b=some o')->
   h'.get? s.heap.objs.size=some { cls:=.type "list",dict:=none,data:=.seq its.toArray c',slots:=#[] }->EP X pins σ Q (.ref s.heap.objs.size) { s with heap:=h' }:=fun its r' hz h' c' kp e=>
  ⟨.ref s.heap.objs.size,_,I.laid (t':=s.toks) kp (ai _) (show cP X.prog X.w _ h' _ (.lst ys) from ⟨hz,its,c',r',e⟩),rfl,q _ (I.hok.fresh (ai _))⟩
 rcases hq with hq | hq
 ·obtain ⟨its,r',pl,hz⟩:=I.list hq;have hlen:=r'.length;obtain ⟨o,ho,hc,n,hd⟩:=pl.isList;exact call_list_seq p (.inl rfl) ho hc hd (fun h' c' kp e=>fin its r' hz h' c' kp e) (by simp only [ar] <;> omega)
 ·obtain ⟨its,r',pl,hz⟩:=I.tuple hq;have hlen:=r'.length;obtain ⟨o,ho,hc,n,hd⟩:=pl;exact call_list_seq p (.inr rfl) ho hc hd (fun h' c' kp e=>fin its r' hz h' c' kp e) (by simp only [ar] <;> omega)
theorem zG:bS X (.type "tuple") (fun xs H Q=>∃ p ys,xs=[.ref p]/\((SqL X.K H p ys/\∀ l,H l=none->Q (.ref l) (upd H l (.tup ys)))\/(SqT X.K H p ys/\Q (.ref p) H))):=by
 intro pins s σ H xs us Q I r h;obtain ⟨p,ys,rfl,h⟩:=h;obtain ⟨u,rfl,rx⟩:=vals1 r;cases rx
 rcases h with ⟨hq,q⟩ | ⟨hq,q⟩
 ·obtain ⟨its,r',pl,hz⟩:=I.list hq;have hlen:=r'.length;refine call_tuple_list pl.isList (fun h' kp=>?_) (by simp only [ar] <;> omega);have I1:Inv X pins σ H { s with heap:=h' }:=I.kept (t':=s.toks) kp;have I2:Inv X pins σ (upd H h'.objs.size (.tup ys)) { s with heap:=h'.push { cls:=.type "tuple",data:=.seq its.toArray } }:=
   I1.laid (t':=s.toks) (fun b o e=>ah _ e) (ai _) (show cP X.prog X.w _ _ _ (.tup ys) from ⟨hz,its,r',oZ.new _ _⟩)
  exact ⟨.ref h'.objs.size,_,I2,rfl,q _ (I1.hok.fresh (ai _))⟩
 ·obtain ⟨its,r',pl,hz⟩:=I.tuple hq;exact call_tuple_same pl ⟨.ref p,H,I,rfl,q⟩
def tyV (K:af) (T:String) (x:V) (H:Hp):Prop:=match x with
 | .str _=>T="str"
 | .int _=>T="int"
 | .ref p=>(T="list" /\ ∃ xs,SqL K H p xs)\/(T="tuple" /\ ∃ o,K.lookup p=some o/\o.cls=.type "tuple" /\ o.dict=none)\/
   (T="dict" /\ ((∃ kvs,H p=some (.dK kvs))\/∃ kvs,H p=some (.dT kvs)))\/(T="set" /\ ∃ S n,H p=some (.set S n))
 | _=>False
theorem T2 {pins:List (Addr×Obj)} {σ:St} {H:Hp} {s:Shared} {T:String} {x:V} {v:Value} (I:Inv X pins σ H s) (r:RelV x v) (ty:tyV X.K T x H):
  s.TypeIs v T/\∀ a,v=.ref a->∃ ob,s.heap.get? a=some ob/\ob.dict=none:=by
 cases x with
 | str z=>
  obtain ⟨t,rfl⟩:=r;cases (show T="str" from ty)
  exact ⟨typeIs_str s z t,fun _ e=>nomatch e⟩
 | int i=>
  obtain ⟨t,rfl⟩:=r;cases (show T="int" from ty)
  exact ⟨typeIs_int s i t,fun _ e=>nomatch e⟩
 | ref p=>
  cases r
  rcases ty with ⟨rfl,xs,hq⟩ | ⟨rfl,o,hk,hc,hd⟩ | ⟨rfl,hk⟩ | ⟨rfl,S,n,hk⟩
  ·obtain ⟨its,_,pl,_⟩:=I.list hq;refine ⟨pl.isList.typeIs,fun a e=>?_⟩;cases e
   obtain ⟨o,n,e,c,hd,_⟩:=pl;exact ⟨o,e,hd⟩
  ·refine ⟨⟨o,I.kIn p o hk,hc⟩,fun a e=>?_⟩;cases e
   exact ⟨o,I.kIn _ o hk,hd⟩
  ·have z:∃ o,s.heap.get? p=some o/\o.ExactDict:=by
    rcases hk with ⟨kvs,hk⟩ | ⟨kvs,hk⟩
    ·obtain ⟨_,_,_,_,o,_,_,e,ex,_⟩:=I.hok p _ hk;exact ⟨o,e,ex⟩
    ·obtain ⟨_,_,_,_,o,_,_,e,ex,_⟩:=I.hok p _ hk;exact ⟨o,e,ex⟩
   obtain ⟨o,e,ex⟩:=z;refine ⟨⟨o,e,ex.1⟩,fun a e2=>?_⟩;cases e2
   exact ⟨o,e,ex.2.1⟩
  ·obtain ⟨o,_,_,_,e,ex,_⟩:=I.hok p _ hk;refine ⟨⟨o,e,ex.1⟩,fun a e2=>?_⟩;cases e2
   exact ⟨o,e,ex.2.1⟩
 | _=>exact gz ty
def tBM (K:af) (T:String) (r:V->List V->Hp->VK->Prop) (to:TE) (t:TA):TE:=fun σ H Q=>to σ H fun x H1=>tyV K T x H1/\t σ H1 fun xs H2=>r x xs H2 Q
variable {o e:Expr} {es:List Expr} {to:TE} {t:TA} {name:Str} {apos cpos:Pos} {T id:String} {r:V->List V->Hp->VK->Prop}
theorem Vj (pa:PlainAttrs T) (slot:Slot T name id) (hty:typeOf (.builtin id)=pure (.type "method_descriptor")) (hm:MtR X id r) (ho:PE X o to) (ha:PA X (e :: es) t)
  (hbase:attributeBase o name X.env (eval o X.env)=eval o X.env:=by rfl)
  (hfew:((backTo cpos (cf (e :: es) X.env)).all (fun x=>!x.1) && (backToKw cpos (keywordEach [] X.env)).all (fun x=>x.1.isSome)
   && decide ((e :: es).length+([]:List Keyword).length+(if ([]:List Keyword).isEmpty then 0 else 1) < 30))=true:=by rfl)
  (hline:(apos.endLine == cpos.line)=true:=by rfl) (hs:cf (e :: es) X.env=(false,eval e X.env) :: cf es X.env:=by rfl) (hplain:(backTo cpos (cf es X.env)).any (·.1)=false:=by rfl):
  PE X (.Call (.Attribute o name apos) (e :: es) [] cpos) (tBM X.K T r to t):=by
 intro pins s σ H Q I h;refine wpAny_Call_method_late hbase hfew hline rfl (thn (ho pins s σ H _ I h) fun v s1 hz=>?_);obtain ⟨x,H1,I1,r1,ty,q1⟩:=hz;obtain ⟨h1,h2⟩:=T2 I1 r1 ty;refine ⟨T,id,pa,slot,hty,h1,h2,?_⟩;have hA:=ha cpos pins s1 σ H1 _ I1 q1;rw [hs] at hA ⊢;refine Calls.callWith_builtin (by show (false || (backTo cpos (cf es X.env)).any (·.1))=false; rw [hplain] <;> rfl) (Calls.evalArgs_plain ?_);exact thn hA fun us s2 ⟨vs,H2,I2,r2,q2⟩=>hm pins s2 σ H2 x vs v us Q I2 r1 r2 q2
end
def MtM (X:Cx) (id:String) (r:V->List V->Hp->VK->Prop):Prop:=
 ∀ (pins:List (Addr×Obj)) (s:Shared) (σ:St) (H:Hp) (x:V) (xs:List V) (v:Value) (us:List Value) (Q:VK),Inv X pins σ H s->RelV x v->aM xs us->r x xs H Q->
  wpAny (model X.prog X.w) X.A (call (.builtin id) (v :: us)) (EP X pins σ Q) X.xe s
theorem aM.one:∀ {x:V} {us:List Value},aM [x] us->∃ u,us=[u]/\RelV x u
 | _,_,.cons r .nil=>⟨_,rfl,r⟩
section
variable {X:Cx} {pins:List (Addr×Obj)} {σ:St} {H:Hp} {s:Shared} {l b:Addr} {xs ys zs:List V}
theorem Inv.lset {its its':List Value} {n:Nat} {f:Array Value->Array Value} {t':Nat} (I:Inv X pins σ H s) (hH:H l=some (.lst xs))
  (e:s.heap.get? l=some { cls:=.type "list",data:=.seq its.toArray n }) (hf:f its.toArray=its'.toArray) (hv:aM ys its') (hz:ys.length<=aw):
  Inv X pins σ (upd H l (.lst ys)) { s with heap:=s.heap.update l (cy f),toks:=t' }:=by
 have q:=PySem.IsL.update e f;rw [hf] at q;refine I.write (x:=l) (e:=l) (by rw [hH]; exact trivial) (.inl rfl) (fun b' u hb hu=>(Heap.get?_update_other s.heap (cy f) (j5 hb)).trans hu) ⟨_,q⟩ ?_;exact ⟨hz,its',_,hv,q⟩
theorem Inv.lnew {its:List Value} {t':Nat} (I:Inv X pins σ H s) (hv:aM ys its) (hz:ys.length<=aw):
  Inv X pins σ (upd H s.heap.objs.size (.lst ys)) { s with heap:=s.heap.push { cls:=.type "list",data:=.seq its.toArray },toks:=t' }:=
 I.laid (fun _ _ q=>ah _ q) (ai _) ⟨hz,its,0,hv,a8 _ rfl⟩
theorem Inv.fresh (I:Inv X pins σ H s):H s.heap.objs.size=none:=I.hok.fresh (ai _)
theorem Inv.lstM (I:Inv X pins σ H s) (hH:H l=some (.lst xs)):xs.length<=aw/\∃ (its:List Value) (n:Nat),aM xs its/\xs.length=its.length/\s.heap.get? l=some { cls:=.type "list",data:=.seq its.toArray n }:=by
 obtain ⟨z,its,n,r,e⟩:=I.hok l _ hH;exact ⟨z,its,n,r,r.length,e⟩
end
section
variable {X:Cx}
def HC:V->List V->Hp->VK->Prop:=fun x vs H Q=>∃ l xs y,x=.ref l/\vs=[y]/\H l=some (.lst xs)/\xs.length < aw/\Q .non (upd H l (.lst (xs++[y])))
theorem A5:MtM X "list.append" HC:=by
 intro pins s σ H x vs v us Q I rx rv h;obtain ⟨l,xs,y,rfl,rfl,hH,hz,q⟩:=h;cases rx
 obtain ⟨u,rfl,ru⟩:=rv.one;obtain ⟨z,its,n,r,hl,e⟩:=I.lstM hH;refine call_meets F.slot_list_append ⟨_,e,rfl⟩ F.entry_list_append (F.args_list_append_2 _ _) (PySem.list_append l its.toArray n u (by rw [ar]; omega)) ⟨e,?_⟩;refine ⟨.non,_,I.lset (its':=its++[u]) hH e (by simp) (r.append (.cons ru .nil)) ?_,rfl,q⟩;rw [d7,List.length_singleton];omega
def Vk:R2:=fun x y H Q=>∃ l b xs zs,x=.ref l/\y=.ref b/\H l=some (.lst xs)/\H b=some (.lst zs)/\xs.length+zs.length<=aw/\∀ p,H p=none->Q (.ref p) (upd H p (.lst (xs++zs)))
theorem T3:OpR X (ff .Add) Vk:=by
 intro pins s σ H x y v u Q I rx ry h;obtain ⟨l,b,xs,zs,rfl,rfl,hH,hB,hz,q⟩:=h;cases rx
 cases ry
 obtain ⟨z,its,n,r,hl,e⟩:=I.lstM hH;obtain ⟨z2,its2,n2,r2,hl2,e2⟩:=I.lstM hB;refine PySem.P.add_list e e2 ?_ (by rw [ar,ar]; omega);have ea:its.toArray++its2.toArray=(its++its2).toArray:=by simp
 rw [ea];exact ⟨.ref _,_,I.lnew (t':=s.toks) (r.append r2) (by rw [d7]; omega),rfl,q _ I.fresh⟩
end
end L2
namespace Att
open PySem PySem.W PySem.Calls PyProof.Rows
theorem uL {P:Params} {h:Heap}:∀ (ns:List Int) (vs:List Value),WellAll P h vs (ns.map WData.int)->IntsAre vs ns:=by
 intro ns
 induction ns with
 | nil=>
  intro vs w;rw [List.map_nil] at w;cases w
  exact .nil
 | cons n ns ih=>
  intro vs w;rw [ay] at w;cases w with
  | cons a b=>
   cases a
   exact .cons _ _ (ih _ b)
theorem J1 {l:OpenLaw} {n:Nat} (hn:l.most=some n) {P:Params} {h:Heap} {args:List WData} {vals:List Value}
  (hpre:l.row.toRowW.claim.pre args=true) (hwl:WellAll P h vals args):
  ∃ a vs ns,vals=[dm a]/\args=[WData.list (ns.map WData.int)]/\h.get? a=some { cls:=.type "list",data:=.seq vs.toArray }/\IntsAre vs ns/\ns.length<=n:=by
 have hsh:WShape.hasAll [] args [.list .int]=true:=(pre_splitW hpre).1;have hc:l.pre.holds [] { args:=args }=true:=(pre_splitW hpre).2;obtain ⟨d,r,rfl,h1,h2⟩:=hasAllW_cons hsh;obtain rfl:=hasAllW_nil h2;obtain ⟨xs,rfl,h3⟩:=hasW_list h1;obtain ⟨ns,rfl⟩:=items_int h3;have hlen:ns.length<=n:=by
  unfold OpenLaw.pre at hc;have h4:(WTm.not (.lt (.lit (.int (n:Int))) (.len (.arg 0)))).holds [] { args:=[.list (ns.map .int)] }=true:=by
   have h4:=(holds_andW hc).1;rw [hn] at h4;exact h4
  have h5:=condW_of h4 (w_not (w_lt w_lit (w_len_list (w_arg rfl))));rw [ae] at h5;refine Nat.le_of_not_lt fun q=>?_;have q':(n:Int) < ((ns.length:Nat):Int):=by omega
  first
   | (rw [decide_eq_true q'] at h5; exact absurd h5 (by decide))
   | (simp at h5; omega)
 cases hwl with
 | cons w1 w2=>
  cases w2
  cases w1 with
  | list ho hall=>exact ⟨_,_,ns,rfl,rfl,ho,uL ns _ hall,hlen⟩
theorem J2 (l:OpenLaw) (args:List WData):l.row.toRowW.claim.post args (.bool true) args=true:=
 postW_of (r:=l.row.toRowW) (X:=(true == true))
  (show WShape.has [] (.bool true) .bool=true by first | rfl | decide | simp [WShape.has,WShape.arms,WShape.armsAll])
  (show (WTm.eq .res (.lit (.bool true))).value [] { args:=args,res:=some (.bool true),after:=args }=some (.bool (true == true)) from w_eq_bool (w_res rfl) w_lit) rfl
theorem attach_call {l:OpenLaw} {n:Nat} {q:Program} {loose:List Str} {XP:(Str->Option Value)->Heap->Prop} {YP:World->Heap->Prop} {d:DefRec}
  (hn:l.most=some n) (hdf:d.params.defaults=[])
  (call:∀ (w:World) (s₀ s₁:Shared) (mg mb:Str->Option Value) (fa:Addr) (o:Obj) (pm cd doc:Value) (a:Addr) (vs:List Value) (ns:List Int),
   Ground q loose [] XP w s₀ mg mb s₁.heap->YP w s₁.heap->
   s₁.heap.get? fa=some o->o.data=.func (docDef d.name d.params d.body d.scope pm cd doc)->s₁.heap.CodeRec cd d.name->mg d.name=some (.ref fa)->
   s₁.heap.get? a=some { cls:=.type "list",data:=.seq vs.toArray }->IntsAre vs ns->ns.length<=n->s₁.gens=#[]->
   codeAny (model l.prog w) callerA (.call (.ref fa) ⟨[.ref a],[]⟩) (fun r s'=>r=.ok (.ret (.bool true))/\OldK s₁.heap s'.heap/\s'.os=s₁.os/\AllBare s'.gens) s₁):
  WalkO q loose XP YP l.row.toRowW d [] (fun f vs=>PySem.call f vs):=by
 intro w s₀ s₁ mg mb G Y fa o pm cd doc dV kV ho hd hcd hD hmg hg args vals as hpre hlay hrd hwl hlo;obtain rfl:dV=.none:=Dflts.none hD hdf;obtain rfl:kV=.none:=Dflts.noKw hD;obtain ⟨a,vs,ns,rfl,rfl,hobj,hints,hlen⟩:=J1 hn hpre hwl;refine enter_call (codeAny_mono (call w s₀ s₁ mg mb fa o pm cd doc a vs ns G Y ho (fd_plain hd) hcd hmg hobj hints hlen hg) fun r s' hq=>?_);obtain ⟨rfl,h2,h3,h4⟩:=hq;exact ⟨.inl ⟨.bool true,.bool true,[],rfl,fun _=>rfl,.bool true,J2 l _,fun _=>⟨m5,fun _ hm=>(nomatch hm)⟩⟩,h2,h3,h4⟩
end Att
namespace L2
open PySem PySem.Spec PyProof.Rows
theorem A6:∀ {vs:List Value} {ns:List Int},IntsAre vs ns->aM (ns.map V.int) vs
 | _,_,.nil=>.nil
 | _,_,.cons n t h=>.cons ⟨t,rfl⟩ (A6 h)
def Lh (H:Hp):Prop:=∀ b,H b=none\/∃ o xs,H b=some (.frz o (.lst xs))
theorem Li {P:Program} {w:World} {K:af} {mg mb:Str->Option Value} {CX:CXT} {k:Nat} {fa a:Addr} {fd:c3} {x:Str} {sp:Sp} {s₁:Shared} {vs:List Value} {ns:List Int}
  (KX:K.In s₁.heap) (hns:s₁.heap.Ns b8 mg) (hb:s₁.heap.Ns builtinsNs mb) (hbb:∀ x:Str,x≠"__name__" -> mb x=mf x) (hlim:s₁.heap.NoLimit) (hg:s₁.gens=#[])
  (ha:s₁.heap.get? a=some { cls:=.type "list",data:=.seq vs.toArray }) (hi:IntsAre vs ns) (hl:ns.length<=aw) (hr:gG k callerA)
  (F:∀ base:Heap,K.In base->base.Ns b8 mg->aU P w K mg base CX k fa fd [x] sp) (hbind:∀ (s:Shared) (u:Value),BindsTo s fd ⟨[u],[]⟩ [(x,u)])
  (hsp:∀ H:Hp,Lh H->SqL K H a (ns.map V.int)->sp [.ref a] H (fun v _=>v=.bl true) fun _ _ _=>False)
  (hCX:∀ H e s',CX [] H s₁ (fun _ _ _=>False) e s'->False):
  codeAny (model P w) callerA (.call (.ref fa) ⟨[.ref a],[]⟩) (fun r s'=>r=.ok (.ret (.bool true))/\OldK s₁.heap s'.heap/\s'.os=s₁.os/\AllBare s'.gens) s₁:=by
 have rv:=A6 hi;have lenV:=hi.length
 -- from an abstract heap in which nothing but the script may be tracked
 have core:∀ H:Hp,Lh H->SqL K H a (ns.map V.int)->HOk P w H s₁.heap->(∀ b,H b≠none->b=a)->(H a≠none->K.lookup a=none)->
   codeAny (model P w) callerA (.call (.ref fa) ⟨[.ref a],[]⟩) (fun r s'=>r=.ok (.ret (.bool true))/\OldK s₁.heap s'.heap/\s'.os=s₁.os/\AllBare s'.gens) s₁:=by
  intro H hO hS hok hA hK;have base_of:∀ {b:Addr} {o:Obj},s₁.heap.get? b=some o->H b=none->(Be s₁.heap H).get? b=some o:=fun e n=>KY e n;have noA:∀ {b:Addr} {o:Obj} {es:Array DictEntry} {ep:Nat},s₁.heap.get? b=some o->o.data=.dict es ep->H b=none:=fun {b o es ep} e d=>by
   cases q:H b with
   | none=>rfl
   | some u=>
    have e':b=a:=hA b (by rw [q]; simp);subst e';rw [ha] at e; cases e;have d':Data.seq vs.toArray _=Data.dict es ep:=d;cases d'
  have nsK:∀ {b:Addr} {m:Str->Option Value},s₁.heap.Ns b m->(Be s₁.heap H).Ns b m:=fun {b m} ⟨o,es,ep,e,d,r⟩=>⟨o,es,ep,base_of e (noA e d),d,r⟩;have hKb:K.In (Be s₁.heap H):=fun b o e=>base_of (KX b o e) (by
   cases q:H b with
   | none=>rfl
   | some u=>
    have e':b=a:=hA b (by rw [q]; simp);subst e';rw [hK (by rw [q]; simp)] at e; cases e)
  have hM:Mod K mg (Be s₁.heap H):=⟨hKb,nsK hns,⟨mb,nsK hb,hbb⟩,let ⟨mc,h1,h2⟩:=hlim; ⟨mc,nsK h1,h2⟩⟩;have e0:Fm P w K mg (Be s₁.heap H) callerA [] s₁ H:=⟨rfl,hM,fun b o e=>OP e,Nat.le_of_eq (IR _ _),trivial,fun b hb=>absurd (show b∈([]:List Addr) from hb) (by simp),hok,.of_eq hg⟩
  refine codeAny_mono ((F _ hKb (nsK hns)).run callerA [] s₁ H ⟨[.ref a],[]⟩ [.ref a] [.ref a] _ _ hr e0 (hbind s₁ (.ref a)) (.cons rfl .nil) (hsp H hO hS)) fun r s' h=>?_;cases r with
  | error e=>exact (hCX H e s' h).elim
  | ok fl=>
   cases fl with
   | next=>exact gz h
   | brk=>exact gz h
   | cont=>exact gz h
   | ret u=>
    obtain ⟨v,H',os,bare,un,hok',r',q⟩:=h;have q':v=.bl true:=q;subst q';obtain rfl:u=Value.bool true:=r';refine ⟨rfl,OldK.of_keep fun b o e=>?_,os,bare⟩;cases q:H b with
    | none=>exact un.keep b o e q (by intro z; exact absurd (show b∈([]:List Addr) from z) (by simp)) (by simp)
    | some u=>
     rcases hO b with z | ⟨ob,xs,z⟩
     ·rw [q] at z; cases z
     ·have z2:=un.frzs b ob _ z;obtain ⟨e1,_⟩:=hok b _ z;obtain ⟨e2,_⟩:=hok' b _ z2;rw [e] at e1; cases e1;exact e2
 cases hk:K.lookup a with
 | some o=>
  -- the script is one of the module's own objects
  have e:=KX a o hk;rw [ha] at e;cases e
  refine core (fun _=>none) (fun _=>.inl rfl) (.inr ⟨_,vs.toArray,_,hk,rfl,rfl,rfl,by rw [ar,lenV]; exact hl,by simpa using rv⟩) (fun b u z=>by have z':(none:Option HO)=some u:=z; cases z') (fun b z=>absurd rfl z) fun z=>absurd rfl z
 | none=>
  refine core (fun b=>if b=a then some (.frz { cls:=.type "list",data:=.seq vs.toArray } (.lst (ns.map V.int))) else none) (fun b=>?_) (.inl (.inr ⟨{ cls:=.type "list",data:=.seq vs.toArray },if_pos rfl⟩)) (fun b u z=>?_) (fun b z=>?_) fun _=>hk
  ·by_cases hb:b=a
   ·exact .inr ⟨_,_,if_pos hb⟩
   ·exact .inl (if_neg hb)
  ·by_cases hb:b=a
   ·have z':=(if_pos hb).symm.trans z;cases z'
    subst hb;exact ⟨ha,by rw [ae]; exact hl,vs,_,rv,ha⟩
   ·have z':=(if_neg hb).symm.trans z;cases z'
  ·by_cases hb:b=a
   ·exact hb
   ·exact absurd (if_neg hb) z
theorem walk_of {l:PySem.W.OpenLaw} {n k:Nat} {q:Program} {loose:List Str} {XP:(Str->Option Value)->Heap->Prop} {YP:World->Heap->Prop} {d:DefRec} {K:Params->af} {CX:World->CXT} {sp:World->Sp} {x:Str}
  (hn:l.most=some n) (hn2:n<=aw) (hdf:d.params.defaults=[]) (hr:gG k callerA)
  (hY:∀ (w:World) (h:Heap),YP w h->(K w.params).In h)
  (F:∀ (w:World) (mg:Str->Option Value) (fa:Addr) (h:Heap),(K w.params).In h->h.Ns b8 mg->mg d.name=some (.ref fa)->
   ∃ fd:c3,(∀ (s:Shared) (u:Value),BindsTo s fd ⟨[u],[]⟩ [(x,u)])/\
    ∀ base:Heap,(K w.params).In base->base.Ns b8 mg->aU l.prog w (K w.params) mg base (CX w) k fa fd [x] (sp w))
  (hsp:∀ (w:World) (H:Hp) (a:Addr) (ns:List Int),ns.length<=n->Lh H->SqL (K w.params) H a (ns.map V.int)->sp w [.ref a] H (fun v _=>v=.bl true) fun _ _ _=>False)
  (hCX:∀ (w:World) (H:Hp) (s:Shared) (e:Value) (s':Shared),CX w [] H s (fun _ _ _=>False) e s'->False):
  PySem.W.WalkO q loose XP YP l.row.toRowW d [] (fun f vs=>PySem.call f vs):=by
 refine Att.attach_call hn hdf fun w s₀ s₁ mg mb fa o pm cd doc a vs ns G Y ho hd hcd hmg hobj hints hlen hg=>?_;have KX:=hY w _ Y;obtain ⟨fd,hb,hF⟩:=F w mg fa _ KX G.T.g hmg;exact Li KX G.T.g G.T.b G.T.builtins G.T.nolimit hg hobj hints (c4 hlen hn2) hr hF hb (fun H hO hS=>hsp w H a ns hlen hO hS) fun H e s'=>hCX w H s₁ e s'
def aR (s:Stmt):Arguments:=match s with
 | .FunctionDef _ a _ _ _ _ _ _ _ _=>a
 | _=>{ posonlyargs:=[],args:=[],vararg:=none,kwonlyargs:=[],kw_defaults:=[],kwarg:=none,defaults:=[] }
def aQ (s:Stmt):List Stmt:=match s with
 | .FunctionDef _ _ b _ _ _ _ _ _ _=>b
 | _=>[]
def aE (s:Stmt):Scope:=match s with
 | .FunctionDef _ _ _ _ _ _ sc _ _ _=>sc
 | _=>{ kind:=.function,names:=[],isGenerator:=false,isCoroutine:=false }
abbrev CX0:CXT:=fun _ _ _ _ _ _=>False
abbrev E0:XK:=fun _ _ _=>False
theorem Vl {X:Cx}:Fo CX0 X E0:=fun _ _ _ _ _ _ _ h=>h.elim
structure Fun (K:af) (x qual:Str) (st:Stmt) (f:Addr) (fd:c3):Prop where
 ex:∃ (oc:Value) (od:Option Addr) (kV doc pm:Value) (an:Option Addr) (cdv ct:Value) (osl:Array (Option Value)),
  fd=bw x qual (aR st) (aQ st) (aE st) .none kV doc pm an cdv ct/\K.lookup f=some ⟨oc,od,.func fd,osl⟩/\bq K cdv qual=true
 kp:bg K (.ref f)=true
section
variable {P:Program} {w:World} {K:af} {mg:Str->Option Value} {base:Heap}
theorem Fun.ok {x qual:Str} {st:Stmt} {f:Addr} {fd:c3} {N ps:List Str} {k:Nat} {sp:Sp} (F:Fun K x qual st f fd) (S:aV N ps (aE st)) (len:∀ vs H Q E,sp vs H Q E->vs.length=ps.length)
  (hbody:∀ (cdv:Value) (A:Around) (outer:List Env) (s:Shared) (H:Hp) (vs:List V) (Q:VK) (E:XK),gG k (A.deeper (envOfC qual (aE st) s.heap.objs.size f cdv))->sp vs H Q E->
   ∃ t,PSs (Fp CX0 P w K mg base N qual (aE st) f cdv A outer s H E).nox (aQ st) t/\t { nx:=fun _ H'=>Q .non H',rt:=Q } (start N vs) H):aU P w K mg base CX0 (k+1) f fd ps sp:=by
 obtain ⟨oc,od,kV,doc,pm,an,cdv,ct,osl,rfl,lk,hcd⟩:=F.ex;refine Ve lk hcd S len fun A outer s H vs Q E hr hsp=>?_;obtain ⟨t,h,q⟩:=hbody cdv A outer s H vs Q E hr hsp;exact ⟨t,h.nox,q⟩
theorem Fun.binds {x qual:Str} {st:Stmt} {f:Addr} {fd:c3} {ps:List Str} (F:Fun K x qual st f fd)
  (h:∀ (kV doc pm:Value) (an:Option Addr) (cdv ct:Value) (us:List Value),us.length=ps.length->bindArgs (bw x qual (aR st) (aQ st) (aE st) .none kV doc pm an cdv ct) ⟨us,[]⟩=pure (ps.zip us)):Binds K fd ps []:=by
 obtain ⟨oc,od,kV,doc,pm,an,cdv,ct,osl,rfl,lk,hcd⟩:=F.ex;exact .all (h kV doc pm an cdv ct)
theorem Fu {x qual:Str} {st:Stmt} {f:Addr} {oc:Value} {od an:Option Addr} {osl:Array (Option Value)} {kV doc pm cdv ct:Value} (l:K.lookup f=some ⟨oc,od,.func (bw x qual (aR st) (aQ st) (aE st) .none kV doc pm an cdv ct),osl⟩)
  (c:bq K cdv qual=true) (k:bg K (.ref f)=true):Fun K x qual st f (bw x qual (aR st) (aQ st) (aE st) .none kV doc pm an cdv ct):=⟨⟨oc,od,kV,doc,pm,an,cdv,ct,osl,rfl,l,c⟩,k⟩
end
theorem Vm {A:Around} {k:Nat} (hr:gG k A):A.units+1 < cLine:=Nat.lt_of_le_of_lt (Nat.add_le_add_left (by decide:1<=64) _) hr.units
section
variable {X:Cx}
theorem pv (i:Nat) {x:Str} {pos:Pos} (hN:X.N[i]?=some x:=by rfl) (hv:Vis X.env.scope x:=by first | exact Or.inl rfl | exact Or.inr (Or.inl rfl) | exact Or.inr (Or.inr rfl)) (hd:(x == ("__debug__" : Str))=false:=by decide)
  (hcd:(x == ("__classdict__" : Str))=false:=by decide):PE X (.Name x pos) (UZ i):=Ff hN hv hd hcd
end
theorem Fv {A B:Prop} (h:B):if false=true then A else B:=by
 rw [if_neg bz];exact h
theorem Fw {A B:Prop} (h:A):if true=true then A else B:=by
 rw [if_pos rfl];exact h
def D7 (H H':Hp):Prop:=∀ b o,H b=some o->H' b=some o
section
variable {κ:Type} [DecidableEq κ]
def iP (kvs:List (κ×V)) (k:κ):Option V:=(kvs.find? fun kv=>decide (kv.1=k)).map (·.2)
def putK (kvs:List (κ×V)) (k:κ) (v:V):List (κ×V):=
 if (kvs.any fun kv=>decide (kv.1=k))=true then kvs.map (fun kv=>if kv.1=k then (kv.1,v) else kv) else kvs++[(k,v)]
theorem pB {p:κ×V} {r:List (κ×V)} {k:κ} (e:p.1=k):iP (p :: r) k=some p.2:=by simp [iP,i5,e]
theorem pC {p:κ×V} {r:List (κ×V)} {k:κ} (e:¬ p.1=k):iP (p :: r) k=iP r k:=by simp [iP,i5,e]
theorem vN (k:κ):∀ kvs:List (κ×V),(kvs.any fun kv=>decide (kv.1=k))=(iP kvs k).isSome
 | []=>rfl
 | p :: r=>by
  rw [j8]
  by_cases e:p.1=k
  ·simp only [pB e,decide_eq_true e,Bool.true_or,jd]
  ·rw [pC e,decide_eq_false e,Bool.false_or]; exact vN k r
theorem gY (kvs:List (κ×V)) (k:κ) (v:V):(putK kvs k v).length<=kvs.length+1:=by
 unfold putK;split
 ·rw [ae]; omega
 ·rw [d7,da,List.length_nil]; omega
theorem uK.isSome_eq {o:Option V} {u:Option Value} (r:uK o u):o.isSome=u.isSome:=by
 cases o with
 | none=>cases u with
  | none=>rfl
  | some _=>exact (show False from r).elim
 | some _=>cases u with
  | none=>exact (show False from r).elim
  | some _=>rfl
theorem uK.getD {o:Option V} {u:Option Value} {d:V} {d':Value} (r:uK o u) (rd:RelV d d'):RelV (o.getD d) (u.getD d'):=by
 cases o with
 | none=>cases u with
  | none=>exact rd
  | some _=>exact (show False from r).elim
 | some _=>cases u with
  | none=>exact (show False from r).elim
  | some _=>exact r
theorem KV.val {kvs:List (κ×V)} {vs:List (κ×Value)} (r:KV kvs vs) (k:κ):uK (iP kvs k) (valueAt vs k):=by
 unfold KV at r
 induction r with
 | nil=>exact ki
 | @cons p q ps qs h t ih=>
  obtain ⟨h1,h2⟩:=h
  by_cases e:p.1=k
  ·have e':q.1=k:=h1.symm.trans e;have b:valueAt (q :: qs) k=some q.2:=by simp [valueAt,i5,e']
   rw [pB e,b]; exact h2
  ·have e':¬ q.1=k:=fun z=>e (h1.trans z);have b:valueAt (q :: qs) k=valueAt qs k:=by simp [valueAt,i5,e']
   rw [pC e,b]; exact ih
theorem KV.any {kvs:List (κ×V)} {vs:List (κ×Value)} (r:KV kvs vs) (k:κ):(kvs.any fun kv=>decide (kv.1=k))=vs.any fun kv=>decide (kv.1=k):=by
 unfold KV at r
 induction r with
 | nil=>rfl
 | cons h t ih=>rw [j8,j8,ih,h.1]
theorem KV.repl {kvs:List (κ×V)} {vs:List (κ×Value)} (r:KV kvs vs) (k:κ) {y:V} {u:Value} (ry:RelV y u):
  KV (kvs.map fun kv=>if kv.1=k then (kv.1,y) else kv) (vs.map fun kv=>if kv.1=k then (kv.1,u) else kv):=by
 unfold KV at r ⊢
 induction r with
 | nil=>exact .nil
 | @cons p q ps qs h t ih=>
  rw [ay,ay];refine .cons ?_ ih;obtain ⟨h1,h2⟩:=h
  by_cases e:p.1=k
  ·rw [if_pos e,if_pos (h1.symm.trans e)]; exact ⟨h1,ry⟩
  ·rw [if_neg e,if_neg (fun z=>e (h1.trans z))]; exact ⟨h1,h2⟩
theorem KV.put {kvs:List (κ×V)} {vs:List (κ×Value)} (r:KV kvs vs) (k:κ) {y:V} {u:Value} (ry:RelV y u):KV (putK kvs k y) (stored vs k u):=by
 unfold putK stored;rw [r.any k]
 by_cases e:(vs.any fun kv=>decide (kv.1=k))=true
 ·rw [if_pos e,if_pos e]; exact r.repl k ry
 ·rw [if_neg e,if_neg e]; exact Paired.snoc r ⟨rfl,ry⟩
theorem KV.length {kvs:List (κ×V)} {vs:List (κ×Value)} (r:KV kvs vs):kvs.length=vs.length:=ee r
end
theorem pD {P:Program} {w:World} {k:Key} {u:Value} (r:RelV (kV k) u):(bL P w).is k u=true:=by
 cases k with
 | inl i=>obtain ⟨t,e⟩:=(show ∃ t,u=Value.int i t from r); subst e; exact CY P w i t
 | inr x=>obtain ⟨t,e⟩:=(show ∃ t,u=Value.str x t from r); subst e; exact CZ P w x t
theorem A7 {P:Program} {w:World}:∀ {ks:List Key} {us:List Value},aM (ks.map kV) us->ItemsAre (bL P w) ks us
 | [],_,r=>by rw [List.map_nil] at r; cases r; exact .nil
 | k :: ks,_,r=>by
  rw [ay] at r;cases r with
  | cons h t=>exact .cons (pD h) (A7 t)
abbrev KT (H:Hp):List (List Key×V)->List (List Key×Addr×Value)->Prop:=Paired fun p q=>p.1=q.1/\H q.2.1=some (.tup (p.1.map kV))/\RelV p.2 q.2.2
theorem KT.val {H:Hp} {kvs:List (List Key×V)} {xs:List (List Key×Addr×Value)} (r:KT H kvs xs) (k:List Key):uK (iP kvs k) ((atKey xs k).map (·.2)):=by
 induction r with
 | nil=>exact ki
 | @cons p q ps qs h t ih=>
  obtain ⟨h1,_,h2⟩:=h
  by_cases e:p.1=k
  ·have e':q.1=k:=h1.symm.trans e;have b:atKey (q :: qs) k=some q.2:=by simp [atKey,i5,e']
   rw [pB e,b]; exact h2
  ·have e':¬ q.1=k:=fun z=>e (h1.trans z);have b:atKey (q :: qs) k=atKey qs k:=by simp [atKey,i5,e']
   rw [pC e,b]; exact ih
theorem KT.repl {H:Hp} {kvs:List (List Key×V)} {xs:List (List Key×Addr×Value)} (r:KT H kvs xs) (k:List Key) {y:V} {u:Value} (ry:RelV y u):
  KT H (kvs.map fun kv=>if kv.1=k then (kv.1,y) else kv) (xs.map (putAt k u)):=by
 induction r with
 | nil=>exact .nil
 | @cons p q ps qs h t ih=>
  rw [ay,ay];refine .cons ?_ ih;obtain ⟨h1,h2,h3⟩:=h;unfold putAt
  by_cases e:p.1=k
  ·rw [if_pos e,if_pos (h1.symm.trans e)]; exact ⟨h1,h2,ry⟩
  ·rw [if_neg e,if_neg (fun z=>e (h1.trans z))]; exact ⟨h1,h2,h3⟩
theorem KT.put {H:Hp} {kvs:List (List Key×V)} {xs:List (List Key×Addr×Value)} (r:KT H kvs xs) (k:List Key) {b:Addr} {y:V} {u:Value} (hb:H b=some (.tup (k.map kV))) (ry:RelV y u):
  KT H (putK kvs k y) (storedH xs k b u):=by
 have e:(kvs.any fun kv=>decide (kv.1=k))=(atKey xs k).isSome:=by
  rw [vN,(r.val k).isSome_eq,Option.isSome_map]
 unfold putK storedH;rw [e]
 by_cases q:(atKey xs k).isSome=true
 ·rw [if_pos q,if_pos q]; exact r.repl k ry
 ·rw [if_neg q,if_neg q]; exact Paired.snoc r ⟨rfl,hb,ry⟩
theorem KT.keeps {H H':Hp} {kvs:List (List Key×V)} {xs:List (List Key×Addr×Value)} (r:KT H kvs xs) (ht:∀ b ys,H b=some (.tup ys)->H' b=some (.tup ys)):KT H' kvs xs:=
 Paired.mapP r fun _ _ z=>⟨z.1,ht _ _ z.2.1,z.2.2⟩
section
variable {P:Program} {w:World} {H:Hp} {h:Heap} {a:Addr}
theorem RZ {u:HO} (ok:HOk P w H h) (e:Rd H a u):cP P w H h a u:=e.ok ok
theorem pE {kvs:List (Key×V)} (ok:HOk P w H h) (e:Rd H a (.dK kvs)):kvs.length<=aw/\(a == fh)=false/\∃ vs,KV kvs vs/\h.DictOf (bL P w) a vs:=
 show cP P w H h a (.dK kvs) from RZ ok e
theorem D8 {kvs:List (Key×V)} (ok:HOk P w H h) (e:H a=some (.dK kvs)):kvs.length<=aw/\(a == fh)=false/\∃ vs,KV kvs vs/\h.DictOf (bL P w) a vs:=pE ok (.inl e)
theorem nU {ks:List Key} (ok:HOk P w H h) (e:H a=some (.tup (ks.map kV))):(tupleKind (bL P w)).is h ks a:=by
 obtain ⟨_,its,r,o,h1,h2,⟨n,h3⟩,_⟩:=(show cP P w H h a (.tup (ks.map kV)) from ok a _ e)
 exact ⟨o,its.toArray,n,h1,h2,h3,by simpa using A7 r⟩
theorem vO {kvs:List (List Key×V)} (ok:HOk P w H h) (e:Rd H a (.dT kvs)):kvs.length<=aw/\(a == fh)=false/\
  ∃ xs,KT H kvs xs/\h.DictOfH (tupleKind (bL P w)) a xs:=by
 obtain ⟨z,y,xs,r,o,es,ep,h1,h2,h3,h4,h5⟩:=(show cP P w H h a (.dT kvs) from RZ ok e)
 refine ⟨z,y,xs,r,o,es,ep,h1,h2,h3,h4,fun x hx=>?_,h5⟩;have all:∀ {l:List (List Key×V)} {m:List (List Key×Addr×Value)},KT H l m->∀ x∈m,(tupleKind (bL P w)).is h x.1 x.2.1:=by
  intro l m q
  induction q with
  | nil=>intro x hx; exact nomatch hx
  | @cons p q ps qs hq t ih=>
   intro x hx;rcases bc.mp hx with e | hx
   ·subst e;exact nU ok (by rw [<- hq.1]; exact hq.2.1)
   ·exact ih x hx
 exact all r x hx
theorem Vn {kvs:List (List Key×V)} (ok:HOk P w H h) (e:H a=some (.dT kvs)):kvs.length<=aw/\(a == fh)=false/\
  ∃ xs,KT H kvs xs/\h.DictOfH (tupleKind (bL P w)) a xs:=vO ok (.inl e)
end
def nV (H:Hp) (a:Addr) (y:V) (r:Option V):Prop:=
 (∃ kvs k,Rd H a (.dK kvs)/\y=kV k/\r=iP kvs k)\/∃ kvs k b,Rd H a (.dT kvs)/\y=.ref b/\H b=some (.tup (k.map kV))/\r=iP kvs k
def T4 (H:Hp) (a:Addr) (y v:V) (H':Hp):Prop:=
 (∃ kvs k,H a=some (.dK kvs)/\y=kV k/\kvs.length < aw/\H'=upd H a (.dK (putK kvs k v)))\/
 ∃ kvs k b,H a=some (.dT kvs)/\y=.ref b/\H b=some (.tup (k.map kV))/\kvs.length < aw/\H'=upd H a (.dT (putK kvs k v))
theorem nV.k {H:Hp} {a:Addr} {kvs:List (Key×V)} {k:Key} (e:H a=some (.dK kvs)):nV H a (kV k) (iP kvs k):=.inl ⟨kvs,k,.inl e,rfl,rfl⟩
theorem T4.k {H:Hp} {a:Addr} {kvs:List (Key×V)} {k:Key} {v:V} (e:H a=some (.dK kvs)) (hl:kvs.length < aw):T4 H a (kV k) v (upd H a (.dK (putK kvs k v))):=.inl ⟨kvs,k,e,rfl,hl,rfl⟩
section
variable {X:Cx} {pins:List (Addr×Obj)} {σ:St} {H:Hp} {s:Shared} {a:Addr} {y v:V} {u r:Value} {o:Option V} {A:Around} {E:Value->Shared->Prop}
theorem Inv.big (I:Inv X pins σ H s):fh < s.heap.objs.size:=by
 have h:b8 < s.heap.objs.size:=(I.mod.glob.keeps I.bk).lt;exact mn (by decide) h
theorem J3 {Q:Value->Shared->Prop} (hu:A.units+1 < cLine) (I:Inv X pins σ H s) (g:nV H a y (some v)) (ry:RelV y u) (h:∀ w' s',Inv X pins σ H s'->RelV v w'->Q w' s'):
  wpAny (model X.prog X.w) A (getItem (.ref a) u) Q E s:=by
 rcases g with ⟨kvs,k,e,ey,l⟩ | ⟨kvs,k,b,e,ey,eb,l⟩
 ·subst ey;obtain ⟨z,hd,vs,rel,dd⟩:=pE I.hok e;obtain ⟨w',hw,rw'⟩:=uK.some_of (v:=v) (o:=valueAt vs k) (by rw [l]; exact rel.val k);exact wpAny_getItem_of (pD ry) dd.mapOf hw (h w' _ (I.tok _) rw')
 ·subst ey;cases (show u=dm b from ry)
  obtain ⟨z,hd,xs,rel,dd⟩:=vO I.hok e;obtain ⟨w',hw,rw'⟩:=uK.some_of (v:=v) (o:=(atKey xs k).map (·.2)) (by rw [l]; exact rel.val k);obtain ⟨p,hp,hp2⟩:=a7.mp hw;refine wpAny_getItem_heap (je hu) (nU I.hok eb) dd hp ?_;rw [hp2];exact h w' _ (I.tok _) rw'
theorem Xq {Q:Value->Shared->Prop} (hu:A.units+1 < cLine) (I:Inv X pins σ H s) (g:nV H a y o) (ry:RelV y u) (h:∀ s',Inv X pins σ H s'->Q (.bool o.isSome) s'):
  wpAny (model X.prog X.w) A (cu .In u (.ref a)) Q E s:=by
 rcases g with ⟨kvs,k,e,ey,l⟩ | ⟨kvs,k,b,e,ey,eb,l⟩
 ·subst ey;obtain ⟨z,hd,vs,rel,dd⟩:=pE I.hok e;refine wpAny_in_of (pD ry) hd dd.mapOf ?_;rw [<- (rel.val k).isSome_eq,<- l];exact h _ (I.tok _)
 ·subst ey;cases (show u=dm b from ry)
  obtain ⟨z,hd,xs,rel,dd⟩:=vO I.hok e;refine wpAny_in_heap (je hu) (nU I.hok eb) hd dd ?_;have q:=(rel.val k).isSome_eq;rw [Option.isSome_map] at q;rw [<- q,<- l];exact h _ (I.tok _)
theorem P6 {Q:Value->Shared->Prop} (hu:A.units+1 < cLine) (I:Inv X pins σ H s) (g:nV H a y o) (ry:RelV y u) (h:∀ s',Inv X pins σ H s'->Q (.bool (!o.isSome)) s'):
  wpAny (model X.prog X.w) A (cu .NotIn u (.ref a)) Q E s:=by
 rcases g with ⟨kvs,k,e,ey,l⟩ | ⟨kvs,k,b,e,ey,eb,l⟩
 ·subst ey;obtain ⟨z,hd,vs,rel,dd⟩:=pE I.hok e;refine wpAny_notIn_of (pD ry) hd dd.mapOf ?_;rw [<- (rel.val k).isSome_eq,<- l];exact h _ (I.tok _)
 ·subst ey;cases (show u=dm b from ry)
  obtain ⟨z,hd,xs,rel,dd⟩:=vO I.hok e;refine wpAny_notIn_heap (je hu) (nU I.hok eb) hd dd ?_;have q:=(rel.val k).isSome_eq;rw [Option.isSome_map] at q;rw [<- q,<- l];exact h _ (I.tok _)
theorem pF {h':Heap} {t':Nat} {ob:HO} (I:Inv X pins σ H s) (mu:Mut (H a)) (hs:ie a s.heap h') (he:∃ q,h'.get? a=some q) (new:cP X.prog X.w (upd H a ob) h' a ob):
  Inv X pins σ (upd H a ob) { s with heap:=h',toks:=t' }:=
 I.write (x:=a) (e:=a) mu (.inl rfl) (fun b q hb z=>(hs.2 b hb).trans z) he new
theorem Bm {P:Program} {w:World} {H':Hp} {h':Heap} {kvs:List (Key×V)} {vs:List (Key×Value)} (z:kvs.length<=aw) (hd:(a == fh)=false) (rel:KV kvs vs) (dd:h'.DictOf (bL P w) a vs):
  cP P w H' h' a (.dK kvs):=⟨z,hd,vs,rel,dd⟩
theorem J4 {H':Hp} {Q:Unit->Shared->Prop} (hu:A.units+1 < cLine) (I:Inv X pins σ H s) (g:T4 H a y v H') (ry:RelV y u) (rv:RelV v r) (h:∀ s',Inv X pins σ H' s'->Q () s'):
  wpAny (model X.prog X.w) A (setItem (.ref a) u r) Q E s:=by
 rcases g with ⟨kvs,k,e,ey,l,eH⟩ | ⟨kvs,k,b,e,ey,eb,l,eH⟩
 ·subst ey eH;obtain ⟨z,hd,vs,rel,dd⟩:=D8 I.hok e;have hz:vs.length<=aw:=by rw [<- rel.length]; exact z
  have hl:(putK kvs k v).length<=aw:=by have:=gY kvs k v; omega
  refine wpAny_setItem_pairs (hsz:=hz) (pD ry) dd fun h' dd' hs=>h _ ?_;have he:∃ q,h'.get? a=some q:=let ⟨q,_,_,hq,_⟩:=dd'; ⟨q,hq⟩;exact pF I (by rw [e]; exact ki) hs he (Bm hl hd (rel.put k rv) dd')
 ·subst ey eH;cases (show u=dm b from ry)
  obtain ⟨z,hd,xs,rel,dd⟩:=Vn I.hok e;have hz:xs.length<=aw:=by rw [<- ee rel]; exact z
  have hl:(putK kvs k v).length<=aw:=by have:=gY kvs k v; omega
  refine wpAny_setItem_heap (hsz:=hz) (je hu) (nU I.hok eb) dd fun h' dd' hs=>h _ ?_;obtain ⟨q,es,ep,hq,h2,h3,h4,_,h5⟩:=dd';refine pF I (by rw [e]; exact ki) hs ⟨q,hq⟩ ⟨hl,hd,_,(rel.put k eb rv).keeps fun c ys ec=>?_,q,es,ep,hq,h2,h3,h4,h5⟩;rw [bF (UY ec e (fun z=>nomatch z))];exact ec
end
section
variable {X:Cx} {pins:List (Addr×Obj)} {σ:St} {H:Hp} {s:Shared} {a:Addr} {kvs:List (Key×V)} {k:Key} {u:Value} {A:Around} {E:Value->Shared->Prop}
theorem Vo {Q:Value->Shared->Prop} (I:Inv X pins σ H s) (e:Rd H a (.dK kvs)) (h:∀ t s',Inv X pins σ H s'->Q (.int kvs.length t) s'):wpAny (model X.prog X.w) A (call (.builtin "len") [.ref a]) Q E s:=by
 obtain ⟨z,hd,vs,rel,dd⟩:=pE I.hok e;refine call_len_dict hd dd (by rw [<- rel.length]; rw [c6] at z; omega) ?_;rw [<- rel.length];exact h _ _ (I.tok _)
end
theorem D9 {X:Cx} {pins:List (Addr×Obj)} {σ:St} {H:Hp} {s:Shared} {a:Addr} {y:V} {o:Option V} (I:Inv X pins σ H s) (g:nV H a y o):s.TypeIs (.ref a) "dict" := by
 rcases g with ⟨kvs,k,e,_,_⟩ | ⟨kvs,k,b,e,_,_,_⟩
 ·obtain ⟨_,_,vs,_,dd⟩:=pE I.hok e;exact dd.typeIs
 ·obtain ⟨_,_,xs,_,dd⟩:=vO I.hok e;exact dd.typeIs
theorem Lj {P:Program} {w:World} {H:Hp} (h:Heap) (hb:fh < h.objs.size):cP P w H (h.push { cls:=.type "dict",data:=.dict #[] }) h.objs.size (.dK []):=
 ⟨b9 _,beq_eq_false_iff_ne.mpr (j5 (a9 hb)),[],.nil,Heap.DictOf.new h⟩
def T5:TE:=fun _ H Q=>∀ p,H p=none->Q (.ref p) (upd H p (.dK []))
section
variable {X:Cx} {pos:Pos}
theorem Lk:PE X (.Dict [] [] pos) T5:=fun pins s σ H Q I h=>
 wpAny_Dict_empty ⟨.ref s.heap.objs.size,_,I.laid (a:=s.heap.objs.size) (o:=.dK []) (t':=s.toks) (fun _ _ q=>ah _ q) (ai _) (Lj s.heap I.big),rfl,h _ (I.hok.fresh (ai _))⟩
end
def rO (kvs more:List (Key×V)):List (Key×V):=more.foldl (fun acc kv=>putK acc kv.1 kv.2) kvs
theorem KV.merge:∀ {more:List (Key×V)} {rs:List (Key×Value)} {kvs:List (Key×V)} {vs:List (Key×Value)},KV more rs->KV kvs vs->KV (rO kvs more) (merged vs rs):=by
 intro more rs kvs vs r;unfold KV at r
 induction r generalizing kvs vs with
 | nil=>intro q; exact q
 | @cons p q ps qs h t ih=>
  intro r0;have e:KV (putK kvs p.1 p.2) (stored vs q.1 q.2):=by
   have:=r0.put p.1 h.2;rw [<- h.1]; exact this
  exact ih e
theorem nK:∀ (more kvs:List (Key×V)),(rO kvs more).length<=kvs.length+more.length
 | [],kvs=>by show kvs.length<=kvs.length+0; omega
 | p :: r,kvs=>by
  have h1:=nK r (putK kvs p.1 p.2);have h2:=gY kvs p.1 p.2
  show (rO (putK kvs p.1 p.2) r).length<=_
  rw [da]; omega
structure M1 (X:Cx) (o:Expr) (m:Str) (apos:Pos) (e:Expr) (cpos:Pos):Prop where
 base:attributeBase o m X.env (eval o X.env)=eval o X.env
 few:((backTo cpos (cf [e] X.env)).all (fun x=>!x.1) && (backToKw cpos (keywordEach [] X.env)).all (fun x=>x.1.isSome)
  && decide (([e]:List Expr).length+([]:List Keyword).length+(if ([]:List Keyword).isEmpty then 0 else 1) < 30))=true
 line:(apos.endLine == cpos.line)=true
 trees:backTo cpos (cf [e] X.env)=[(false,eval e X.env)]
structure M2 (X:Cx) (o:Expr) (m:Str) (apos:Pos) (e f:Expr) (cpos:Pos):Prop where
 base:attributeBase o m X.env (eval o X.env)=eval o X.env
 few:((backTo cpos (cf [e,f] X.env)).all (fun x=>!x.1) && (backToKw cpos (keywordEach [] X.env)).all (fun x=>x.1.isSome)
  && decide (([e,f]:List Expr).length+([]:List Keyword).length+(if ([]:List Keyword).isEmpty then 0 else 1) < 30))=true
 line:(apos.endLine == cpos.line)=true
 trees:backTo cpos (cf [e,f] X.env)=[(false,eval e X.env),(false,eval f X.env)]
section
variable {X:Cx} {pins:List (Addr×Obj)} {σ:St} {H:Hp} {s:Shared} {a:Addr} {y d:V} {u r:Value} {o:Option V} {A:Around} {E:Value->Shared->Prop}
theorem T6 {Q:Value->Shared->Prop} (hu:A.units+1 < cLine) (I:Inv X pins σ H s) (g:nV H a y o) (ry:RelV y u) (h:∀ w' s',Inv X pins σ H s'->RelV (o.getD .non) w'->Q w' s'):
  wpAny (model X.prog X.w) A (call (.builtin "dict.get") [.ref a,u]) Q E s:=by
 rcases g with ⟨kvs,k,e,ey,l⟩ | ⟨kvs,k,b,e,ey,eb,l⟩
 ·subst ey;obtain ⟨z,hd,vs,rel,dd⟩:=pE I.hok e;refine jf d8 dd.typeIs gq (PySem.F.args_dict_get_2 _ _) (meets_dict_get (bL X.prog X.w) a (pD ry) hd) ⟨_,dd.mapOf,h _ _ (I.tok _) ?_⟩;rw [l];exact (rel.val k).getD rfl
 ·subst ey;cases (show u=dm b from ry)
  obtain ⟨z,hd,xs,rel,dd⟩:=vO I.hok e;refine jf d8 dd.typeIs gq (PySem.F.args_dict_get_2 _ _) (meetsH_dict_get (tupleKind (bL X.prog X.w)) a b hd) ⟨je hu,k,xs,nU I.hok eb,dd,h _ _ (I.tok _) ?_⟩;rw [l];exact (rel.val k).getD rfl
theorem T7 {Q:Value->Shared->Prop} (hu:A.units+1 < cLine) (I:Inv X pins σ H s) (g:nV H a y o) (ry:RelV y u) (rd:RelV d r) (h:∀ w' s',Inv X pins σ H s'->RelV (o.getD d) w'->Q w' s'):
  wpAny (model X.prog X.w) A (call (.builtin "dict.get") [.ref a,u,r]) Q E s:=by
 rcases g with ⟨kvs,k,e,ey,l⟩ | ⟨kvs,k,b,e,ey,eb,l⟩
 ·subst ey;obtain ⟨z,hd,vs,rel,dd⟩:=pE I.hok e;refine jf d8 dd.typeIs gq (PySem.F.args_dict_get_3 _ _ _) (meets_dict_get_default (bL X.prog X.w) a (pD ry) hd r) ⟨_,dd.mapOf,h _ _ (I.tok _) ?_⟩;rw [l];exact (rel.val k).getD rd
 ·subst ey;cases (show u=dm b from ry)
  obtain ⟨z,hd,xs,rel,dd⟩:=vO I.hok e;refine jf d8 dd.typeIs gq (PySem.F.args_dict_get_3 _ _ _) (meetsH_dict_get_default (tupleKind (bL X.prog X.w)) a b hd r) ⟨je hu,k,xs,nU I.hok eb,dd,h _ _ (I.tok _) ?_⟩;rw [l];exact (rel.val k).getD rd
end
section
variable {X:Cx} {pins:List (Addr×Obj)} {σ:St} {H:Hp} {s:Shared} {a:Addr} {kvs:List (Key×V)} {A:Around} {E:Value->Shared->Prop}
theorem Ll {Q:Value->Shared->Prop} (I:Inv X pins σ H s) (e:Rd H a (.dK kvs)) (h:∀ p s',H p=none->Inv X pins σ (upd H p (.dK kvs)) s'->Q (.ref p) s'):wpAny (model X.prog X.w) A (call (.type "dict") [.ref a]) Q E s:=by
 obtain ⟨z,hd,vs,rel,dd⟩:=pE I.hok e;refine kt_call_dict hd dd (by rw [<- rel.length]; exact z) fun h' dd' hs=>?_;refine h _ _ (I.hok.fresh (ai _)) (I.laid (a:=s.heap.objs.size) (o:=.dK kvs) (t':=s.toks) (fun b q hq=>?_) (ai _) (Bm z (beq_eq_false_iff_ne.mpr (j5 (a9 I.big))) rel dd'));exact (hs.2 b (a9 (az hq))).trans (ah _ hq)
end
section
variable {X:Cx}
theorem J5:bS X (.builtin "len") (fun xs H Q=>∃ a kvs,xs=[V.ref a]/\H a=some (.dK kvs)/\Q (.int kvs.length) H):=by
 intro pins s σ H xs us Q I r h;obtain ⟨a,kvs,rfl,ha,q⟩:=h;obtain ⟨u,rfl,ru⟩:=vals1 r;cases ru
 exact Vo I (.inl ha) fun t s' I'=>⟨.int kvs.length,H,I',⟨t,rfl⟩,q⟩
end
section
variable {prog:Program} {w:World} {A:Around} {R:Result->Shared->Prop} {s:Shared}
def HE (ifs:List Expr) (env:Env):Sem Bool:=forIn ifs true fun c r=>if r=true then do let ok <- isTrue c env (eval c env); pure (ForInStep.yield ok) else pure (ForInStep.yield r)
theorem Bn {elt target iter:Expr} {ifs:List Expr} {scope:Scope} {pos:Pos} {it acc:Value} {env:Env} (I:Nat->Shared->Prop)
  (turn:∀ n s,I n s->wpAny (model prog w) A (pyNext it) (fun r s₁=>match r with
   | none=>R (.ok .next) s₁
   | some v=>wpAny (model prog w) A (letOwnedTupleGo target it v) (fun _ s₁'=>wpAny (model prog w) A (assign target env v) (fun _ s₂=>
     wpAny (model prog w) A (HE ifs env) (fun ok s₃=>
      if ok=true then wpAny (model prog w) A (eval elt env) (fun x s₄=>
       wpAny (model prog w) A (call (.builtin "list.append") [acc,x]) (fun _ s₅=>∃ m,m < n/\I m s₅) (fun _ _=>False) s₄) (fun _ _=>False) s₃
      else ∃ m,m < n/\I m s₃) (fun _ _=>False) s₂) (fun _ _=>False) s₁') (fun _ _=>False) s₁) (fun _ _=>False) s)
  (n:Nat) (h:I n s):
  codeAny (model prog w) A (.compLoop (.ListComp elt [⟨target,iter,ifs,0⟩] scope pos) 0 it acc env) R s:=by
 refine codeAny_loop rfl I (fun n s hI=>?_) n h
 show wpAny _ A ((compTurn (.ListComp elt [⟨target,iter,ifs,0⟩] scope pos) 0 it acc env).onRaise (fun x=>do noteFrame x env; theTreesLotGoes x)) _ _ s
 refine wpAny_noted ?_;rw [compTurn_list];refine aa (wpAny_standAt (aa (gx (turn n s hI) (fun r s₁ h₁=>?_) fun _ _ h'=>h'.elim)));cases r with
 | none=>exact ag h₁
 | some v=>
  refine aa (gx h₁ (fun _ s₁' h₁'=>?_) fun _ _ h'=>h'.elim);refine aa (gx h₁' (fun _ s₂ h₂=>aa (gx h₂ (fun ok s₃ h₃=>?_) fun _ _ h'=>h'.elim)) fun _ _ h'=>h'.elim);cases ok with
  | false=>exact ag ⟨rfl,h₃⟩
  | true=>
   exact aa (aa (gx h₃ (fun x s₄ h₄=>aa (gx h₄ (fun _ s₅ h₅=>ag (ag ⟨rfl,h₅⟩)) fun _ _ h'=>h'.elim)) fun _ _ h'=>h'.elim))
end
def gH (cells:List (Str×Addr)):List (Str×km)->List (Str×Addr)->List (Str×Addr)
 | [],cs=>cs
 | (n,k) :: r,cs=>gH cells r (if (k == dh)=true then (n,(cells.lookup n).getD 0) :: cs else cs)
theorem zH {scope:Scope} {env:Env} (h:∀ y∈scope.names,y.2=dh->∃ c,env.cells.lookup y.1=some c):closureFor scope env=pure (gH env.cells scope.names []):=by
 have go:∀ (names:List (Str×km)) (cs:List (Str×Addr)),(∀ y∈names,y.2=dh->∃ c,env.cells.lookup y.1=some c)->
   (forIn names cs fun (x:Str×km) (r:List (Str×Addr))=>match x with
    | (name,kind)=>if (kind == dh)=true then (do let y <- cellOf env name; pure (ForInStep.yield ((name,y) :: r))) else (pure (ForInStep.yield r):Sem _))=(pure (gH env.cells names cs):Sem _):=by
  intro names
  induction names with
  | nil=>intro cs _; rfl
  | cons y r ih=>
   intro cs hy;obtain ⟨n,k⟩:=y;rw [List.forIn_cons];have ih':=fun cs'=>ih cs' fun y hm=>hy y (ao _ hm)
   by_cases hk:(k == dh)=true
   ·obtain ⟨c,hc⟩:=hy (n,k) aj (by simpa using hk)
    have e1:cellOf env n=pure c:=by unfold cellOf; rw [show env.cells.lookup n=some c from hc]
    have e2:gH env.cells ((n,k) :: r) cs=gH env.cells r ((n,c) :: cs):=by
     show gH env.cells r (if (k == dh)=true then _ else _)=_
     rw [if_pos hk,show env.cells.lookup n=some c from hc]; rfl
    rw [e2,<- ih' ((n,c) :: cs)];simp only [hk,if_true,e1,pure_bind]
   ·have e2:gH env.cells ((n,k) :: r) cs=gH env.cells r cs:=by
     show gH env.cells r (if (k == dh)=true then _ else _)=_
     rw [if_neg hk]
    rw [e2,<- ih' cs];simp only [hk,if_false,pure_bind]
    try rfl
 have:=go scope.names [] h;unfold closureFor;simpa using this
theorem tQ {cells:List (Str×Addr)} {x:Str} {c:Addr}:∀ (names:List (Str×km)) (cs:List (Str×Addr)),(gH cells names cs).lookup x=some c->cs.lookup x=some c\/(∃ y∈names,y.1=x/\y.2=dh/\c=(cells.lookup x).getD 0)
 | [],_,h=>.inl h
 | (n,k) :: r,cs,h=>by
  rcases tQ r _ h with h1 | ⟨y,hy,e⟩
  ·by_cases hk:(k == dh)=true
   ·rw [if_pos hk] at h1
    by_cases hx:x=n
    ·subst hx;simp only [cb,beq_self_eq_true] at h1;exact .inr ⟨(x,k),aj,rfl,by simpa using hk,(bh h1).symm⟩
    ·have:(x == n)=false:=by simpa using hx
     simp only [cb,this] at h1;exact .inl h1
   ·rw [if_neg hk] at h1;exact .inl h1
  ·exact .inr ⟨y,ao _ hy,e⟩
theorem vP {cells:List (Str×Addr)} {x:Str}:∀ (names:List (Str×km)) (cs:List (Str×Addr)),((∃ c,cs.lookup x=some c)\/∃ y∈names,y.1=x/\y.2=dh)->∃ c,(gH cells names cs).lookup x=some c
 | [],_,h=>by
  rcases h with h | ⟨y,hy,_⟩
  ·exact h
  ·cases hy
 | (n,k) :: r,cs,h=>by
  refine vP r _ ?_;rcases h with ⟨c,h⟩ | ⟨y,hy,e1,e2⟩
  ·left
   by_cases hk:(k == dh)=true
   ·rw [if_pos hk]
    by_cases hx:x=n
    ·subst hx; simp [cb]
    ·have:(x == n)=false:=by simpa using hx
     exact ⟨c,by simp only [cb,this]; exact h⟩
   ·rw [if_neg hk]; exact ⟨c,h⟩
  ·rcases bc.mp hy with rfl | hy
   ·left;have hk:(k == dh)=true:=by simpa using e2
    rw [if_pos hk];have hx:n=x:=e1;subst hx;simp [cb]
   ·exact .inr ⟨y,hy,e1,e2⟩
def nW (os:Scope) (oN:List Str) (sc:Scope) (N:List Str) (js:List (Option Nat)):Bool:=
 (match sc.kind with | .function=>true | _=>false) && sc.names.all (fun y=>match y.2 with
  | .cell=>(match sc.names.lookup y.1 with | some .cell=>true | _=>false)
  | _=>true) &&
 sc.names.all (fun y=>match y.2 with
  | .local=>(match sc.names.lookup y.1 with | some .local=>true | _=>false)
  | .free=>(match sc.names.lookup y.1,os.names.lookup y.1 with | some .free,some .cell=>true | some .free,some .free=>true | _,_=>false)
  | _=>true) &&
 js.length == N.length && (js.zip N).all (fun p=>match p.1 with
  | none=>true
  | some j=>(match oN[j]? with | some x=>decide (x=p.2) | none=>false) && (match sc.names.lookup p.2 with | some .free=>true | _=>false))
structure T8 (os:Scope) (oN:List Str) (sc:Scope) (N:List Str) (js:List (Option Nat)):Prop where
 kind:sc.kind=.function
 own:∀ y∈sc.names,y.2=.cell->sc.names.lookup y.1=some .cell
 nm:∀ y∈sc.names,y.2=.local->sc.names.lookup y.1=some .local
 fr:∀ y∈sc.names,y.2=.free->os.names.lookup y.1=some .cell\/os.names.lookup y.1=some .free
 len:js.length=N.length
 cap:∀ (i j:Nat),js[i]?=some (some j)->∃ x,N[i]?=some x/\oN[j]?=some x/\sc.names.lookup x=some .free
theorem J6 {os:Scope} {oN:List Str} {sc:Scope} {N:List Str} {js:List (Option Nat)} (h:nW os oN sc N js=true):T8 os oN sc N js:=by
 unfold nW at h;simp only [cq] at h;obtain ⟨⟨⟨⟨h1,h2⟩,h3⟩,h4⟩,h5⟩:=h;refine ⟨?_,fun y hy e=>?_,fun y hy e=>?_,fun y hy e=>?_,by simpa using h4,fun i j e=>?_⟩
 ·cases hk:sc.kind <;> rw [hk] at h1 <;> first | rfl | exact absurd h1 bz
 ·have:=cw.mp h2 y hy;rw [e] at this;dsimp only at this;cases hl:sc.names.lookup y.1 with
  | none=>rw [hl] at this; exact absurd this bz
  | some k=>cases k <;> rw [hl] at this <;> first | rfl | exact absurd this bz
 ·have:=cw.mp h3 y hy;rw [e] at this;dsimp only at this;cases hl:sc.names.lookup y.1 with
  | none=>rw [hl] at this; exact absurd this bz
  | some k=>cases k <;> rw [hl] at this <;> first | rfl | exact absurd this bz
 ·have:=cw.mp h3 y hy;rw [e] at this;dsimp only at this;cases hl:sc.names.lookup y.1 with
  | none=>rw [hl] at this; exact absurd this bz
  | some k=>
   rw [hl] at this;cases ho:os.names.lookup y.1 with
   | none=>rw [ho] at this; cases k <;> exact absurd this bz
   | some k'=>rw [ho] at this; cases k <;> cases k' <;> first | exact .inl rfl | exact .inr rfl | exact absurd this bz
 ·have hlen:js.length=N.length:=by simpa using h4
  obtain ⟨hi,ej⟩:=ab.mp e;have hN:i < N.length:=by omega
  have hz:(js.zip N)[i]?=some (some j,N[i]):=by
   rw [List.getElem?_zip_eq_some];exact ⟨e,by simp [hN]⟩
  have:=cw.mp h5 _ (cg hz);simp only [cq] at this;obtain ⟨t1,t2⟩:=this;refine ⟨N[i],by simp [hN],?_,?_⟩
  ·cases ho:oN[j]? with
   | none=>rw [ho] at t1; exact absurd t1 bz
   | some x=>rw [ho] at t1; rw [of_decide_eq_true t1]
  ·cases hl:sc.names.lookup N[i] with
   | none=>rw [hl] at t2; exact absurd t2 bz
   | some k=>rw [hl] at t2; cases k <;> first | rfl | exact absurd t2 bz
theorem cQ {κ:Type} {x:Str} {k:κ}:∀ {l:List (Str×κ)},l.lookup x=some k->(x,k)∈l
 | [],h=>by simp at h
 | (n,v) :: r,h=>by
  by_cases hx:x=n
  ·subst hx;simp only [cb,beq_self_eq_true] at h;cases h
   exact aj
  ·have:(x == n)=false:=by simpa using hx
   simp only [cb,this] at h;exact ao _ (cQ h)
theorem kL {sc:Scope} {env:Env}:∀ {names:List (Str×km)} {x:Str} {k:km},(names.map fun (n,k)=>if (k == dh && env.scope.kind == .function && env.kindOf n == some .cell) then (n,mz) else (n,k)).lookup x=some k->
  names.lookup x=some k\/(k=.cell/\names.lookup x=some .free)
 | [],_,_,h=>by simp at h
 | (n,q) :: r,x,k,h=>by
  have ih:=@kL sc env r x k
  by_cases hc:(q == dh && env.scope.kind == .function && env.kindOf n == some .cell)=true
  ·simp only [ay] at h;rw [if_pos hc] at h;have hq:q=.free:=by
    simp only [cq] at hc;simpa using hc.1.1
   by_cases hx:x=n
   ·subst hx;simp only [cb,beq_self_eq_true] at h ⊢;exact .inr ⟨(bh h).symm,by rw [hq]⟩
   ·have e:(x == n)=false:=by simpa using hx
    simp only [cb,e] at h ⊢;exact ih h
  ·simp only [ay] at h;rw [if_neg hc] at h
   by_cases hx:x=n
   ·subst hx;simp only [cb,beq_self_eq_true] at h ⊢;exact .inl h
   ·have e:(x == n)=false:=by simpa using hx
    simp only [cb,e] at h ⊢;exact ih h
theorem pG {env:Env}:∀ {names:List (Str×km)} {x:Str},names.lookup x=some .free->
  (names.map fun (n,k)=>if (k == dh && env.scope.kind == .function && env.kindOf n == some .cell) then (n,mz) else (n,k)).lookup x=some .free\/
  (names.map fun (n,k)=>if (k == dh && env.scope.kind == .function && env.kindOf n == some .cell) then (n,mz) else (n,k)).lookup x=some .cell
 | [],_,h=>by simp at h
 | (n,q) :: r,x,h=>by
  have ih:=@pG env r x
  by_cases hc:(q == dh && env.scope.kind == .function && env.kindOf n == some .cell)=true
  ·simp only [ay];rw [if_pos hc]
   by_cases hx:x=n
   ·subst hx;simp only [cb,beq_self_eq_true]
    first | exact .inr rfl | exact .inr trivial
   ·have e:(x == n)=false:=by simpa using hx
    simp only [cb,e] at h ⊢;exact ih h
  ·simp only [ay];rw [if_neg hc]
   by_cases hx:x=n
   ·subst hx;simp only [cb,beq_self_eq_true] at h ⊢;exact .inl h
   ·have e:(x == n)=false:=by simpa using hx
    simp only [cb,e] at h ⊢;exact ih h
theorem bG:∀ (names:List (Str×km)) (n:Nat) (acc:List (Str×Addr)),d5 n names acc=d5 n names []++acc
 | [],_,_=>rfl
 | (x,k) :: r,n,acc=>by
  unfold d5;split
  ·rw [bG r _ ((x,n) :: acc),bG r _ [(x,n)],List.append_assoc];rfl
  ·exact bG r n acc
theorem jK {x:Str} {c:Addr}:∀ {names:List (Str×km)} {n:Nat},(x,c)∈d5 n names []->(x,mz)∈names
 | [],_,h=>by cases h
 | (y,k) :: r,n,h=>by
  unfold d5 at h;split at h
  ·rename_i hk;rw [bG,bj] at h;rcases h with h | h
   ·exact ao _ (jK h)
   ·have e:=bu.mp h;have ex:x=y:=congrArg Prod.fst e;have ek:k=.cell:=by simpa using hk
    rw [ex,ek];exact aj
  ·exact ao _ (jK h)
theorem tR {α:Type} {x:Str} {c:α}:∀ {l:List (Str×α)},(x,c)∈l->∃ d,l.lookup x=some d
 | (y,d) :: r,h=>by
  by_cases e:x=y
  ·subst e; exact ⟨d,by simp [cb]⟩
  ·have z:(x == y)=false:=by simpa using e
   rcases bc.mp h with q | q
   ·exact absurd (congrArg Prod.fst q) e
   ·obtain ⟨d',hd⟩:=tR q;exact ⟨d',by simp only [cb,z]; exact hd⟩
theorem eW {x:Str}:∀ {names:List (Str×km)} {n:Nat},(x,mz)∈names->∃ c,(d5 n names []).lookup x=some c
 | (y,k) :: r,n,h=>by
  have go:∃ c,(x,c)∈d5 n ((y,k) :: r) []:=by
   rcases bc.mp h with q | q
   ·have ex:x=y:=congrArg Prod.fst q;have ek:k=.cell:=(congrArg Prod.snd q).symm;refine ⟨n,?_⟩;unfold d5;rw [if_pos (by rw [ek]; rfl),bG,ex];exact ak _ aj
   ·unfold d5;split
    ·obtain ⟨c,hc⟩:=eW (n:=n+1) q;rw [bG];exact ⟨c,f7 _ (mem_of_lookup hc)⟩
    ·obtain ⟨c,hc⟩:=eW (n:=n) q;exact ⟨c,mem_of_lookup hc⟩
  obtain ⟨c,hc⟩:=go;exact tR hc
theorem pH {α:Type} {x:Str}:∀ {l r:List (Str×α)},(l++r).lookup x=(l.lookup x).or (r.lookup x)
 | [],_=>by simp
 | (y,d) :: l,r=>by
  have ih:=pH (x:=x) (l:=l) (r:=r);cases e:x == y with
  | true=>simp [cb,e]
  | false=>simp only [List.cons_append,cb,e]; exact ih
theorem rP {M:Model} {A:Around} {E:Value->Shared->Prop} {s:Shared} {scope:Scope} {globals:Addr} {closure:List (Str×Addr)} {qual:Str} {func:Option Addr} {code:Value} {outer:Env} {builtins:Addr} {Q:Env->Shared->Prop}
  (hQ:Q (newEnv scope s.heap.objs.size globals (d5 (s.heap.objs.size+1) scope.names closure) qual func code (some outer) builtins) { s with heap:=pushCells (s.heap.push { cls:=.type "dict",data:=.dict #[] }) scope.names }):
  wpAny M A (newFunctionEnv scope globals closure [] qual func code (some outer) builtins) Q E s:=by
 simp only [newFunctionEnv,jd,if_true];refine aa (wpAny_alloc ?_);refine aa (wpAny_layCells _ (fun name kind cells=>by cases hkc:kind == mz <;> simp [hkc]) _ _ _ _ ?_);rw [show ({ s with heap:=s.heap.push { cls:=.type "dict",data:=.dict #[] } }:Shared).heap.objs.size=s.heap.objs.size+1 from kj ..]
 rw [List.forIn_nil];exact aa (ag (ag hQ))
def Cx.comp (X:Cx) (sc:Scope) (N:List Str) (C:Addr) (fp:List Addr) (s₀:Shared) (H₀:Hp):Cx:=
 { X with N:=N,s₀:=s₀,H₀:=H₀,env:=compEnvC sc (d5 (C+1) sc.names (gH X.env.cells sc.names [])) C X.env,outer:=X.stack,ex:=fp,fn:=fun x=>(match sc.names.lookup x with | some .cell=>true | _=>false),pn:=[],xe:=fun _ _=>False }
def Fx:St->Nat->Option V
 | [],_=>none
 | x :: _,0=>x
 | _ :: r,n+1=>Fx r n
theorem vQ:∀ {σ:St} {i:Nat} {v:V},Fx σ i=some v->σ[i]?=some (some v)
 | [],_,_,h=>by cases h
 | x :: _,0,v,h=>by
  have h':x=some v:=h;simp [h']
 | _ :: r,n+1,v,h=>by
  rw [fv];exact vQ (σ:=r) (i:=n) h
def jL (js:List (Option Nat)) (σ:St):St:=js.map fun o=>match o with
 | none=>none
 | some j=>Fx σ j
theorem P7 {js:List (Option Nat)} {σ:St} {i:Nat} {v:V} (h:(jL js σ)[i]?=some (some v)):∃ j,js[i]?=some (some j)/\σ[j]?=some (some v):=by
 unfold jL at h;rw [au] at h;cases e:js[i]? with
 | none=>rw [e] at h; cases h
 | some o=>
  rw [e] at h;cases o with
  | none=>cases h
  | some j=>exact ⟨j,rfl,vQ (bh h)⟩
def PTs (X:Cx) (ifs:List Expr) (t:TT):Prop:=
 ∀ (pins:List (Addr×Obj)) (s:Shared) (σ:St) (H:Hp) (Q:Bool->Hp->Prop),Inv X pins σ H s->t σ H Q->wpAny (model X.prog X.w) X.A (HE ifs X.env) (TP X pins σ Q) X.xe s
def Vp:TT:=fun _ H Q=>Q true H
theorem P8 {X:Cx}:PTs X [] Vp:=fun _ _ _ H _ I h=>wpAny_tests_nil ⟨H,I,h⟩
theorem P9 {X:Cx} {c:Expr} {t:TT} (h:PT X c t):PTs X [c] t:=fun pins s σ H Q I q=>wpAny_tests_one (h pins s σ H Q I q)
def S0 (js:List (Option Nat)) (g:TG) (tt:TT) (te:TE) (σ:St) (acc:Addr) (x:V) (H:Hp) (N:Hp->Prop):Prop:=g x (jL js σ) H fun σ2 H4=>tt σ2 H4 fun b H5=>
   if b=true then te σ2 H5 fun v H6=>∃ ys,H6 acc=some (.lst ys)/\ys.length < aw/\N (upd H6 acc (.lst (ys++[v]))) else N H5
def HF (js:List (Option Nat)) (wi:TI) (g:TG) (tt:TT) (te:TE):TE:=fun σ H Q=>wi σ H fun J H1=>∀ acc,H1 acc=none->
 ∃ W:Nat->Nat->Hp->Prop,(∃ m,W 0 m (upd H1 acc (.lst [])))/\∀ i m H2,W i m H2->
  (J.stop i H2/\Q (.ref acc) H2)\/(J.go i H2/\∃ N:Hp->Prop,(∀ H',N H'->∃ m',m' < m/\W (i+1) m' H')/\∀ x H3,J.yld i H2 x H3->S0 js g tt te σ acc x H3 N)
section
variable {X:Cx} {elt iter tg:Expr} {ifs:List Expr} {sc:Scope} {pos:Pos} {os:Scope} {oN N:List Str} {js:List (Option Nat)} {wi:TI} {g:TG} {tt:TT} {te:TE}
structure Off (X:Cx) (pins:List (Addr×Obj)) (H:Hp) (C:Addr) (s:Shared):Prop where
 ns:∃ m,s.heap.Ns C m
 none:H C=none
 loc:C≠X.env.locals
 new:X.s₀.heap.objs.size<=C
 cells:∀ x c,X.env.cells.lookup x=some c->c≠C
 pins:∀ p∈X.pn++pins,p.1≠C
theorem Off.go {pins:List (Addr×Obj)} {σ:St} {H:Hp} {C:Addr} {s:Shared} {h':Heap} (o:Off X pins H C s) (I:Inv X pins σ H s) (hs:ie C s.heap h'):Inv X pins σ H { s with heap:=h' }:=
 I.turned (t':=s.toks) (fun b ob hb e=>(hs.2 b hb).trans e) o.none o.loc (.inr o.new) o.cells o.pins
theorem A8 {use:Option (Value->Sem Unit)} {Q0:Value->Shared->Prop} (hc:X.calm=true) (hes:X.env.scope=os) (heN:X.N=oN) (ok:nW os oN sc N js=true) (hi:PI X tg iter wi)
  (hg:∀ C fp s₀ H₀,PG (X.comp sc N C fp s₀ H₀) tg g) (ht:∀ C fp s₀ H₀,PTs (X.comp sc N C fp s₀ H₀) ifs tt) (he:∀ C fp s₀ H₀,PE (X.comp sc N C fp s₀ H₀) elt te)
  {pins:List (Addr×Obj)} {s:Shared} {σ:St} {H:Hp} {Q:VK} (I:Inv X pins σ H s) (h:HF js wi g tt te σ H Q)
  (hfin:∀ acc C s6 H6,Inv X pins σ H6 s6->Off X pins H6 C s6->Q (.ref acc) H6->compPost (model X.prog X.w) X.A X.xe use Q0 (.ref acc) C (.ok .next) s6)
  (hs:∀ x,iz iter X.env x=pure x:=by intro _; rfl):
  wpAny (model X.prog X.w) X.A (comprehension (.ListComp elt [⟨tg,iter,ifs,0⟩] sc pos) sc X.env (firstIterPos [⟨tg,iter,ifs,0⟩] pos) (newList []) false (eval iter X.env) use) Q0 X.xe s:=by
 have S:=J6 ok;subst hes heN;have hcl:∀ y∈sc.names,y.2=dh->∃ c,X.env.cells.lookup y.1=some c:=fun y hy e=>I.ok.has y.1 (S.fr y hy e);have clsub:∀ x c,(gH X.env.cells sc.names []).lookup x=some c->X.env.cells.lookup x=some c:=fun x c e=>by
  rcases tQ _ _ e with z | ⟨y,hy,e1,e2,e3⟩
  ·cases z
  ·obtain ⟨d,hd⟩:=hcl y hy e2;rw [e1] at hd;rw [hd] at e3;rw [hd,e3]; rfl
 refine wpAny_comprehension_free (use:=use) rfl hs (zH hcl) S.kind S.nm (thn (hi pins s σ H _ I h) fun v s1 h1=>thn h1 fun itv s2 h2=>?_);obtain ⟨it,fp,tn,J,H2,e,I2,T,st2,f2,q⟩:=h2;subst e;obtain ⟨W,⟨m0,w0⟩,turn⟩:=q s2.heap.objs.size I2.fresh;refine ft (rP ?_);have I3:Inv X pins σ (upd H2 s2.heap.objs.size (.lst [])) { s2 with heap:=s2.heap.push { cls:=.type "list",data:=.seq ([]:List Value).toArray },toks:=s2.toks }:=I2.lnew (its:=[]) (ys:=[]) .nil (b9 _);generalize hH3:upd H2 s2.heap.objs.size (HO.lst [])=H3 at w0 I3;generalize hs3:({ s2 with heap:=s2.heap.push { cls:=.type "list",data:=.seq ([]:List Value).toArray },toks:=s2.toks }:Shared)=s3 at I3;have es3:({ s2 with heap:=s2.heap.push { cls:=.type "list",dict:=none,data:=.seq ([]:List Value).toArray } }:Shared)=s3:=hs3;have eh3:s2.heap.push { cls:=.type "list",dict:=none,data:=.seq ([]:List Value).toArray }=s3.heap:=by rw [<- es3]
 (try rw [eh3])
 have hC:∀ b o,s3.heap.get? b=some o->b≠s3.heap.objs.size:=fun b o e=>a9 (az e);have old:∀ b o,s3.heap.get? b=some o->(pushCells (s3.heap.push { cls:=.type "dict",data:=.dict #[] }) sc.names).get? b=some o:=fun b o e=>pushCells_keeps _ _ b o (ah _ e);have hns₁:(pushCells (s3.heap.push { cls:=.type "dict",data:=.dict #[] }) sc.names).Ns s3.heap.objs.size (fun _=>none):=(Heap.Ns.new s3.heap (.type "dict")).keeps (pushCells_keeps _ _);have cok:=cellsFrom_ok sc.names (s3.heap.push { cls:=.type "dict",data:=.dict #[] }) (s3.heap.objs.size+1) [] ⟨fun _ _ hm=>(nomatch hm),m5⟩ (by rw [kj]; exact ai _);rw [kj] at cok;generalize pushCells (s3.heap.push { cls:=.type "dict",data:=.dict #[] }) sc.names=h₁ at old hns₁ cok ⊢;have cl1:∀ {x c},(d5 (s3.heap.objs.size+1) sc.names (gH X.env.cells sc.names [])).lookup x=some c->((x,c)∈d5 (s3.heap.objs.size+1) sc.names []/\h₁.IsCell c none/\s3.heap.objs.size+1<=c)\/(X.env.cells.lookup x=some c/\c < s3.heap.objs.size):=fun {x c} e=>by
  rw [bG,pH] at e;cases eo:(d5 (s3.heap.objs.size+1) sc.names []).lookup x with
  | some d=>
   rw [eo] at e;cases e
   have:=mem_of_lookup eo;exact .inl ⟨this,cok.empty x c this⟩
  | none=>
   rw [eo] at e;have e:=clsub x c e;obtain ⟨v,z⟩:=I3.cell x c e;exact .inr ⟨e,z.lt⟩
 have cl2:∀ {x c},sc.names.lookup x=some .free->(gH X.env.cells sc.names []).lookup x=some c->(d5 (s3.heap.objs.size+1) sc.names (gH X.env.cells sc.names [])).lookup x=some c:=fun {x c} hf e=>by
  rw [bG,pH];cases eo:(d5 (s3.heap.objs.size+1) sc.names []).lookup x with
  | some d=>
   have:=S.own _ (jK (mem_of_lookup eo)) rfl;rw [hf] at this;cases this
  | none=>exact e
 have st3:tn 0 s3.heap:=T.keep 0 _ _ st2 fun b hb o e=>by
  rw [<- eh3]; exact ah _ e
 have fobj:∀ b∈fp,∃ o,s3.heap.get? b=some o/\∀ v,o.data≠.cell v:=T.obj 0 _ st3;have f3:∀ b∈fp,D3 X pins H3 b:=fun b hb=>by
  obtain ⟨o,ho,_⟩:=T.obj 0 _ st2 b hb;refine ⟨?_,(f2 b hb).2⟩;rw [<- hH3,bF (a9 (az ho))];exact (f2 b hb).1
 -- the block's context
 have Xok:(X.comp sc N s3.heap.objs.size fp s3 H3).Ok:=by
  refine ⟨I.ok.mod,S.kind,I.ok.glob,I.ok.blt,ai _,fun x y c e1 e2=>?_,fun x hx=>?_,fun x c z e=>?_,I.ok.hd,I.ok.frames,.inl rfl,fun b hb=>?_,I3.bs,
   c4 I.ok.bsz I3.sz,fun b o e hb=>?_,fun b hb hf=>?_,I3.stack,I3.stkFree⟩
  ·rcases cl1 e1 with ⟨m1,_,g1⟩ | ⟨z1,g1⟩ <;> rcases cl1 e2 with ⟨m2,_,g2⟩ | ⟨z2,g2⟩
   ·exact name_of_addr cok.apart m1 m2
   ·exact absurd (bp g2 (Nat.le_of_succ_le g1)) (fj _)
   ·exact absurd (bp g1 (Nat.le_of_succ_le g2)) (fj _)
   ·exact I.ok.inj x y c z1 z2
  ·have fr:sc.names.lookup x=some .free->∃ c,(d5 (s3.heap.objs.size+1) sc.names (gH X.env.cells sc.names [])).lookup x=some c:=fun hf=>
    let ⟨c,hc⟩:=vP (cells:=X.env.cells) (x:=x) sc.names [] (.inr ⟨_,cQ hf,rfl,rfl⟩)
    ⟨c,cl2 hf hc⟩
   have fin:∀ {k},(relabel sc X.env).names.lookup x=some k->(k=.cell\/k=.free)->∃ c,(d5 (s3.heap.objs.size+1) sc.names (gH X.env.cells sc.names [])).lookup x=some c:=fun {k} e hk=>by
    rcases kL (sc:=sc) e with z | ⟨_,z⟩
    ·rcases hk with rfl | rfl
     ·obtain ⟨c,hc⟩:=eW (n:=s3.heap.objs.size+1) (cQ z);exact ⟨c,by rw [bG,pH,hc]; rfl⟩
     ·exact fr z
    ·exact fr z
   rcases hx with hx | hx
   ·exact fin hx (.inl rfl)
   ·exact fin hx (.inr rfl)
  ·have z:sc.names.lookup x=some .cell:=by
    have z:(match sc.names.lookup x with | some .cell=>true | _=>false)=true:=z
    split at z
    ·assumption
    ·cases z
   have e:(d5 (s3.heap.objs.size+1) sc.names (gH X.env.cells sc.names [])).lookup x=some c:=e;obtain ⟨d,hd⟩:=eW (n:=s3.heap.objs.size+1) (cQ z);rw [bG,pH,hd] at e;cases e
   exact Nat.le_of_succ_le (cok.empty x c (mem_of_lookup hd)).2
  ·obtain ⟨o,ho,_⟩:=fobj b hb;refine ⟨hC b o ho,fun x c e=>?_⟩;rcases cl1 e with ⟨_,_,g1⟩ | ⟨z1,_⟩
   ·exact Nat.ne_of_gt (bp (az ho) (Nat.le_of_succ_le g1))
   ·exact (f3 b hb).2.2.2.2.1 x c z1
  ·rcases (f3 b hb).2.2.2.1 with z | z
   ·exact I.ok.noex b o e z
   ·exact absurd (bp (az e) (c4 I.ok.bsz z)) (fj _)
  ·rcases bc.mp (I3.stkSub b hf) with z | z
   ·exact (f3 b hb).2.1 z
   ·exact (f3 b hb).2.2.1 z
 -- what the block takes from around it
 have capt:∀ (i:Nat) (x:Str) (v:V),N[i]?=some x->(jL js σ)[i]?=some (some v)->∃ u c o,RelV v u/\((compEnvC sc (d5 (s3.heap.objs.size+1) sc.names (gH X.env.cells sc.names [])) s3.heap.objs.size X.env).kindOf x=some .cell\/(compEnvC sc (d5 (s3.heap.objs.size+1) sc.names (gH X.env.cells sc.names [])) s3.heap.objs.size X.env).kindOf x=some .free)/\
   (d5 (s3.heap.objs.size+1) sc.names (gH X.env.cells sc.names [])).lookup x=some c/\s3.heap.get? c=some o/\o.data=.cell (some u)/\H3 c=none/\c∉fp:=by
  intro i x v hN hv;obtain ⟨j,hj,hσ⟩:=P7 hv;obtain ⟨x',hx',ho,hf⟩:=S.cap i j hj;rw [hN] at hx'; cases hx';obtain ⟨m,hn,hl⟩:=I3.loc;have hvis:Vis X.env.scope x:=by
   rcases S.fr _ (cQ hf) rfl with z | z
   ·exact .inr (.inl z)
   ·exact .inr (.inr z)
  obtain ⟨u,r,l⟩:=hl j x v ho hσ hvis;obtain ⟨c,hcl'⟩:=vP (cells:=X.env.cells) (x:=x) sc.names [] (.inr ⟨_,cQ hf,rfl,rfl⟩);have hcx:=clsub x c hcl';have hcell:s3.heap.IsCell c (some u):=by
   rcases l with ⟨k,_⟩ | ⟨_,c',e,z⟩
   ·exfalso;rcases S.fr _ (cQ hf) rfl with z | z
    ·have k':X.env.scope.names.lookup x=some .local:=k;rw [z] at k'; cases k'
    ·have k':X.env.scope.names.lookup x=some .local:=k;rw [z] at k'; cases k'
   ·rw [hcx] at e; cases e; exact z
  obtain ⟨o,ho',hd⟩:=hcell;refine ⟨u,c,o,r,?_,cl2 hf hcl',ho',hd,I3.freeC x c hcx,fun hb=>(f3 c hb).2.2.2.2.1 x c hcx rfl⟩;exact (pG (env:=X.env) hf).symm
 -- at any state of the block,its names as at its start
 have recap:∀ {pins':List (Addr×Obj)} {σ8:St} {H8:Hp} {s8:Shared},Inv (X.comp sc N s3.heap.objs.size fp s3 H3) pins' σ8 H8 s8->Inv (X.comp sc N s3.heap.objs.size fp s3 H3) [] (jL js σ) H8 s8:=fun {pins' σ8 H8 s8} I8=>by
  refine ⟨I8.ok,I8.os,I8.bare,I8.base,?_,I8.cell,I8.free,I8.freeC,fun p hp=>by simp [Cx.comp] at hp,I8.hok,?_⟩
  ·obtain ⟨m,hn,_⟩:=I8.loc;refine ⟨m,hn,fun i x v hN hv _=>?_⟩;obtain ⟨u,c,o,r,k,hl,ho,hd,hn3,hnf⟩:=capt i x v hN hv;refine ⟨u,r,.inr ⟨k,c,hl,?_⟩⟩;obtain ⟨sl,e⟩:=I8.base.any ho hn3 hnf;exact ⟨_,e,hd⟩
  ·show (jL js σ).length=N.length
   unfold jL;rw [ae,S.len]
 have I4:Inv (X.comp sc N s3.heap.objs.size fp s3 H3) [] (jL js σ) H3 { s3 with heap:=h₁ }:=by
  refine ⟨Xok,rfl,I3.bare,Un.kept old,⟨_,hns₁,fun i x v hN hv _=>?_⟩,fun x c e=>?_,I3.fresh,fun x c e=>?_,fun p hp=>by simp [Cx.comp] at hp,I3.hok.kept old,?_⟩
  ·obtain ⟨u,c,o,r,k,hl,ho,hd,_,_⟩:=capt i x v hN hv;exact ⟨u,r,.inr ⟨k,c,hl,o,old c o ho,hd⟩⟩
  ·rcases cl1 e with ⟨_,g1,_⟩ | ⟨z1,_⟩
   ·exact ⟨_,g1⟩
   ·obtain ⟨v,o,ho,hd⟩:=I3.cell x c z1;exact ⟨v,o,old c o ho,hd⟩
  ·rcases cl1 e with ⟨_,_,g1⟩ | ⟨z1,_⟩
   ·exact I3.hok.fresh (by omega)
   ·exact I3.freeC x c z1
  ·show (jL js σ).length=N.length
   unfold jL;rw [ae,S.len]
 have st4:tn 0 h₁:=T.keep 0 _ _ st3 fun b hb o e=>old b o e;have fpok:∀ {H':Hp},(∀ b∈fp,H' b=none)->∀ b∈fp,D3 (X.comp sc N s3.heap.objs.size fp s3 H3) [] H' b:=fun {H'} hn b hb=>
  ⟨hn b hb,(Xok.exf b hb).1,Xok.exfs b hb,.inl hb,(Xok.exf b hb).2,fun p hp=>by simp [Cx.comp] at hp⟩
 have fin:∀ (s6:Shared) (H6:Hp),Inv (X.comp sc N s3.heap.objs.size fp s3 H3) [] (jL js σ) H6 s6->Q (.ref s2.heap.objs.size) H6->compPost (model X.prog X.w) X.A X.xe use Q0 (.ref s2.heap.objs.size) s3.heap.objs.size (.ok .next) s6:=fun s6 H6 I6 q6=>by
  have I7:Inv X pins σ H6 s6:=I3.call' (ch:=fp) I6.os I6.base I6.hok I6.bare fun b hb=>⟨(f3 b hb).2.2.2.1,(f3 b hb).2.1,(f3 b hb).2.2.2.2.1,(f3 b hb).2.2.2.2.2⟩;refine hfin _ _ _ _ I7 ⟨let ⟨m,hn,_⟩:=I6.loc; ⟨m,hn⟩,I6.free,Nat.ne_of_gt I3.lt,I3.sz,fun x c e=>?_,fun p hp=>?_⟩ q6
  ·obtain ⟨v,z⟩:=I3.cell x c e;exact a9 z.lt
  ·exact a9 (az (I3.pin p hp).1)
 have loop:codeAny (model X.prog X.w) X.A (.compLoop (.ListComp elt [⟨tg,iter,ifs,0⟩] sc pos) 0 (.ref it) (.ref s2.heap.objs.size) (compEnvC sc (d5 (s3.heap.objs.size+1) sc.names (gH X.env.cells sc.names [])) s3.heap.objs.size X.env))
   (compPost (model X.prog X.w) X.A X.xe use Q0 (.ref s2.heap.objs.size) s3.heap.objs.size) { s3 with heap:=h₁ }:=by
  refine Bn (fun n s'=>∃ i H',Inv (X.comp sc N s3.heap.objs.size fp s3 H3) [] (jL js σ) H' s'/\tn i s'.heap/\(∀ b∈fp,H' b=none)/\W i n H') ?_ m0 ⟨0,H3,I4,st4,fun b hb=>(f3 b hb).1,w0⟩;rintro n s5 ⟨i,H5,I5,st5,fr5,w5⟩;rcases turn i n H5 w5 with ⟨stop,qn⟩ | ⟨go,Nn,hN,step⟩
  ·refine thn (T.done (X.comp sc N s3.heap.objs.size fp s3 H3) rfl rfl rfl hc i [] s5 (jL js σ) H5 (fun _ _=>False) I5 (fpok fr5) st5 stop) fun r s6 ⟨hr,I6⟩=>?_;subst hr;exact fin s6 H5 I6 qn
  ·refine thn (T.item (X.comp sc N s3.heap.objs.size fp s3 H3) rfl rfl rfl hc i [] s5 (jL js σ) H5 (fun _ _=>False) I5 (fpok fr5) st5 go) fun r s6 ⟨u,hr,h6⟩=>?_;subst hr;refine thn h6 fun _ s7 hz=>?_;obtain ⟨x,H7,I7,r7,y7,st7,fr7⟩:=hz;have I7':=I7.pinned (fpok fr7) (T.obj _ _ st7);refine thn (hg _ _ _ _ _ s7 _ H7 x u _ I7' r7 (step x H7 y7)) fun _ s8 ⟨σ8,H8,I8,q8⟩=>?_;refine thn (ht _ _ _ _ _ s8 σ8 H8 _ I8 q8) fun b s9 ⟨H9,I9,q9⟩=>?_;have again:∀ {σ':St} {H':Hp} {s':Shared},Inv (X.comp sc N s3.heap.objs.size fp s3 H3) ([]++vI fp s7.heap) σ' H' s'->Nn H'->∃ m,m < n/\∃ i H',Inv (X.comp sc N s3.heap.objs.size fp s3 H3) [] (jL js σ) H' s'/\tn i s'.heap/\(∀ b∈fp,H' b=none)/\W i m H':=fun {σ' H' s'} I' n'=>by
    obtain ⟨m',hm,w'⟩:=hN H' n';refine ⟨m',hm,i+1,H',recap I',T.keep _ _ _ st7 fun b hb o e=>(I'.pin (b,o) (ak _ (ak _ (jJ hb e)))).1,fun b hb=>?_,w'⟩;obtain ⟨o,e,d⟩:=T.obj _ _ st7 b hb;exact (I'.pin (b,o) (ak _ (ak _ (jJ hb e)))).2.1
   cases b with
   | false=>exact again I9 q9
   | true=>
    refine thn (he _ _ _ _ _ s9 σ8 H9 _ I9 q9) fun u' s10 ⟨v,H10,I10,rv,ys,hacc,hz,n10⟩=>?_;refine thn (A5 (X:=X.comp sc N s3.heap.objs.size fp s3 H3) _ s10 σ8 H10 (.ref s2.heap.objs.size) [v] (.ref s2.heap.objs.size) [u'] (fun _ H'=>Nn H') I10 rfl (.cons rv .nil) ⟨_,ys,v,rfl,rfl,hacc,hz,n10⟩) fun _ s11 ⟨_,H11,I11,_,n11⟩=>?_;exact again I11 n11
 exact codeAny_compStart_list loop (T.self X.A 0 _ _ _ st4 loop)
theorem Pa (hc:X.calm=true) (hes:X.env.scope=os) (heN:X.N=oN) (ok:nW os oN sc N js=true) (hi:PI X tg iter wi)
  (hg:∀ C fp s₀ H₀,PG (X.comp sc N C fp s₀ H₀) tg g) (ht:∀ C fp s₀ H₀,PTs (X.comp sc N C fp s₀ H₀) ifs tt) (he:∀ C fp s₀ H₀,PE (X.comp sc N C fp s₀ H₀) elt te)
  (hs:∀ x,iz iter X.env x=pure x:=by intro _; rfl):PE X (.ListComp elt [⟨tg,iter,ifs,0⟩] sc pos) (HF js wi g tt te):=by
 intro pins s σ H Q I h;rw [eval_ListComp];refine A8 (use:=none) hc hes heN ok hi hg ht he I h (fun acc C s6 H6 I6 o q=>?_) hs;exact ⟨o.ns.choose,o.ns.choose_spec,fun h' hs'=>⟨.ref acc,H6,o.go I6 hs',rfl,q⟩⟩
theorem Fy {i:Nat} {x:Str} {pos' spos:Pos} (hN:X.N.Nodup) (hx':X.N[i]?=some x) (hloc:X.env.scope.names.lookup x=some .local) (hc:X.calm=true) (hes:X.env.scope=os) (heN:X.N=oN) (ok:nW os oN sc N js=true) (hi:PI X tg iter wi)
  (hg:∀ C fp s₀ H₀,PG (X.comp sc N C fp s₀ H₀) tg g) (ht:∀ C fp s₀ H₀,PTs (X.comp sc N C fp s₀ H₀) ifs tt) (he:∀ C fp s₀ H₀,PE (X.comp sc N C fp s₀ H₀) elt te)
  (hsw:swapsWith (.ListComp elt [⟨tg,iter,ifs,0⟩] sc pos) (some (.Name x pos')) spos.line X.env=pure true:=by rfl)
  (hs:∀ x,iz iter X.env x=pure x:=by intro _; rfl):PS X (.Assign [.Name x pos'] (.ListComp elt [⟨tg,iter,ifs,0⟩] sc pos) spos) (Sx (HF js wi g tt te) (L1 i)):=by
 intro pins s σ H D I h;rw [exec_Assign_Name_used _ _ _ _ hsw];refine aa (wpAny_standAt (aa ?_))
 show wpAny _ X.A (do let _ <- comprehension (.ListComp elt [⟨tg,iter,ifs,0⟩] sc pos) sc X.env _ (newList []) false (eval iter X.env) (some (assign (.Name x pos') X.env))) _ _ s
 refine aa (thn (A8 (use:=some (assign (.Name x pos') X.env)) (Q0:=fun _ s'=>SP X pins D .next s') hc hes heN ok hi hg ht he I h (fun acc C s6 H6 I6 o q=>?_) hs) fun _ s' hq=>ag (ag hq))
 show wpAny _ X.A (assign (.Name x pos') X.env (.ref acc)) _ _ _
 refine wpAny_assign_Name (zZ I6 hN hx' (.inl hloc) (v:=.ref acc) rfl (fun s7 I7 ⟨a,hs7,ha⟩=>?_) (.inr hloc));have hCa:C≠a:=by
  rcases ha with rfl | ha
  ·exact o.loc
  ·exact fun e=>o.cells x a ha e.symm
 obtain ⟨m,hn⟩:=o.ns;have o7:Off X pins H6 C s7:=⟨⟨m,hn.sameBut hs7 hCa⟩,o.none,o.loc,o.new,o.cells,o.pins⟩;exact ⟨m,hn.sameBut hs7 hCa,fun h' hs'=>⟨_,H6,o7.go I7 hs',q⟩⟩
end
section
variable {X:Cx}
def Vq:V->Option Int->Option Int->Hp->VK->Prop:=fun x lo hi H Q=>∃ z,x=.str z/\z.length<=aw/\Q (.str (Txt.slice z lo hi)) H
theorem part_of {v:Value} {o:Option Int} (h:IsPart v o):∃ p:Option (Int×Tok),v=partValue p/\p.map (·.1)=o:=by
 cases h with
 | none=>exact ⟨none,rfl,rfl⟩
 | int i t=>exact ⟨some (i,t),rfl,rfl⟩
theorem T9:SlR X Vq:=by
 intro pins s σ H x v vl vu lo hi sl Q I rx hs pl pu h;obtain ⟨z,rfl,hz,q⟩:=h;obtain ⟨t,rfl⟩:=rx;obtain ⟨l,rfl,rfl⟩:=part_of pl;obtain ⟨u,rfl,rfl⟩:=part_of pu;obtain ⟨o,ho,hc,hd⟩:=hs;refine ⟨"str",_,PySem.F.slot_str_getitem.lookup,typeIs_str s z t,?_⟩;refine wpAny_getItem_str_slice (l:=l) (u:=u) (st:=none) ⟨o,ho,hc,hd⟩ rfl ?_;have e:sliceMade z t l u none=if ((1:Int) == 1 && (ku (l.map (·.1)) (u.map (·.1)) 1 z.length).length == z.length)=true then Made.val (.str z t) else Made.str ⟨((ku (l.map (·.1)) (u.map (·.1)) 1 z.length).filterMap (z.cps[·]?)).toArray⟩:=rfl;have hle:=Txt.slice_le z (l.map (·.1)) (u.map (·.1));unfold Txt.slice at q hle;rw [e]
 by_cases hc':((1:Int) == 1 && (ku (l.map (·.1)) (u.map (·.1)) 1 z.length).length == z.length)=true
 ·rw [if_pos hc'] at q ⊢;exact ⟨.str z,H,I,⟨t,rfl⟩,q⟩
 ·rw [if_neg hc'] at q hle ⊢;exact ⟨c4 hle hz,.str _,H,I.tok _,⟨_,rfl⟩,q⟩
theorem vR:∀ {ss:List Str} {us:List Value},aM (ss.map V.str) us->StrsAre us ss
 | [],_,r=>by cases r; exact .nil
 | x :: ss,_,r=>by
  cases r with
  | cons h t=>
   obtain ⟨tk,rfl⟩:=h;exact .cons x tk (vR t)
theorem A9:∀ {us:List Value} {ss:List Str},StrsAre us ss->aM (ss.map V.str) us
 | _,_,.nil=>.nil
 | _,_,.cons x t h=>.cons ⟨t,rfl⟩ (A9 h)
theorem rQ:bS X (.builtin "sorted") (fun xs H Q=>∃ p ss,xs=[.ref p]/\SqL X.K H p (ss.map V.str)/\ss.length < 64/\
  ∀ l ss',H l=none->ss'.Perm ss->sortedS ss'=true->Q (.ref l) (upd H l (.lst (ss'.map V.str)))):=by
 intro pins s σ H xs us Q I r h;obtain ⟨p,ss,rfl,hq,h64,q⟩:=h;obtain ⟨u,rfl,ru⟩:=vals1 r;cases ru
 obtain ⟨its,rv,pl,hz⟩:=I.list hq;have hlen:=rv.length;rw [ae] at hlen;refine sorted_strs pl.isList (vR rv) (by omega) fun out ss' a1 a2 a3=>?_;obtain ⟨e,he⟩:=sortedAll_at s.heap its out;refine ⟨.ref (s.heap.objs.size+1),_,I.laid (t':=s.toks) (o:=.lst (ss'.map V.str)) (fun b ob h=>sortedAll_old h) (Nat.le_succ _) ?_,rfl,q _ ss' (I.hok.fresh (Nat.le_succ _)) a2 a3⟩;refine ⟨?_,out.toList,e,A9 a1,by rw [he]⟩;rw [ae,a2.length_eq];exact iy (mn h64 (by decide))
theorem gT {es:List Expr} {k:Nat} {t:TGs} {n:Nat} {pos:Pos} (K:af) (hK:X.K=K) (hc:X.calm=true) (h:PGs X es t)
  (hn:(i9 es X.env).length=n:=by rfl) (hst:(i9 es X.env).findIdx? (·.1)=none:=by rfl):PG X (.Tuple es k pos) (V7 K n t):=by subst hK; exact Sw hc h hn hst
end
section
variable {X:Cx} {e a b:Expr} {t t' ta tb:TE} {pos:Pos}
theorem PE.imp (h:PE X e t) (i:∀ σ H Q,t' σ H Q->t σ H Q):PE X e t':=fun pins s σ H Q I q=>h pins s σ H Q I (i σ H Q q)
theorem PT.imp {t t':TT} (h:PT X e t) (i:∀ σ H Q,t' σ H Q->t σ H Q):PT X e t':=fun pins s σ H Q I q=>h pins s σ H Q I (i σ H Q q)
theorem OpR.imp {f:Value->Value->Sem Value} {r r':R2} (h:OpR X f r) (i:∀ x y H Q,r' x y H Q->r x y H Q):OpR X f r':=fun pins s σ H x y v u Q I rx ry q=>h pins s σ H x y v u Q I rx ry (i x y H Q q)
theorem bS.imp {f:Value} {r r':List V->Hp->VK->Prop} (h:bS X f r) (i:∀ xs H Q,r' xs H Q->r xs H Q):bS X f r':=fun pins s σ H xs us Q I rx q=>h pins s σ H xs us Q I rx (i xs H Q q)
def cV (i:Nat):TE:=fun σ H Q=>match Fx σ i with
 | some v=>Q v H
 | none=>False
theorem cv (i:Nat) {x:Str} (hN:X.N[i]?=some x:=by rfl) (hv:Vis X.env.scope x:=by first | exact Or.inl rfl | exact Or.inr (Or.inl rfl) | exact Or.inr (Or.inr rfl)) (hd:(x == ("__debug__" : Str))=false:=by decide)
  (hcd:(x == ("__classdict__" : Str))=false:=by decide):PE X (.Name x pos) (cV i):=by
 refine (Ff hN hv hd hcd).imp fun σ H Q h=>?_;unfold cV at h;cases e:Fx σ i with
 | none=>rw [e] at h; exact h.elim
 | some v=>rw [e] at h; exact ⟨v,vQ e,h⟩
def Vr (K:af):R2:=fun x y H Q=>match x,y with
 | .int i,.int j=>Q (.int (i+j)) H
 | .str i,.str j=>i.length+j.length<=aw/\Q (.str (i++j)) H
 | .ref _,.ref _=>Vk x y H Q\/RY K x y H Q
 | _,_=>False
theorem Pb (K:af) (hK:X.K=K):OpR X (ff .Add) (Vr K):=by
 subst hK;refine (SF.or (Fk.or (T3.or P3))).imp fun x y H Q h=>?_;cases x <;> cases y <;> first
  | exact .inl ⟨_,_,rfl,rfl,h⟩
  | exact .inr (.inl ⟨_,_,rfl,rfl,h.1,h.2⟩)
  | exact .inr (.inr h)
  | exact h.elim
def Aa (C:Int->Int->Prop) (f:Int->Int->Int):R2:=fun x y H Q=>match x,y with
 | .int i,.int j=>C i j/\Q (.int (f i j)) H
 | _,_=>False
def Lm (f:Int->Int->Int):R2:=fun x y H Q=>match x,y with
 | .int i,.int j=>Q (.int (f i j)) H
 | _,_=>False
theorem uY {f:Value->Value->Sem Value} {C:Int->Int->Prop} {g:Int->Int->Int} (h:OpR X f (rI C fun i j=>.int (g i j))):OpR X f (Aa C g):=
 h.imp fun x y H Q q=>by cases x <;> cases y <;> first | exact ⟨_,_,rfl,rfl,q.1,q.2⟩ | exact q.elim
theorem Ln {f:Value->Value->Sem Value} {g:Int->Int->Int} (h:OpR X f (rI0 fun i j=>.int (g i j))):OpR X f (Lm g):=
 h.imp fun x y H Q q=>by cases x <;> cases y <;> first | exact ⟨_,_,rfl,rfl,q⟩ | exact q.elim
theorem Pc:OpR X (ff .Sub) (Lm fun i j=>i - j):=Ln SH
theorem Pd:OpR X (ff .Mult) (Aa D4 fun i j=>i*j):=uY SJ
theorem Pe:OpR X (ff .FloorDiv) (Aa L6 fun i j=>i / j):=uY OX
theorem Pf:OpR X (ff .Mod) (Aa (fun _ j=>0 < j) fun i j=>i % j):=uY SK
theorem Pg:OpR X (ff .Pow) (Aa IT fun i j=>i ^ j.toNat):=uY SL
def Da (f:Int->Int->Bool) (g:List Nat->List Nat->Bool):R2:=fun x y H Q=>match x,y with
 | .int i,.int j=>Q (.bl (f i j)) H
 | .str i,.str j=>Q (.bl (g i.cps.toList j.cps.toList)) H
 | _,_=>False
theorem Bo {f:Value->Value->Sem Value} {p:Int->Int->Bool} {g:List Nat->List Nat->Bool} (h1:OpR X f (rI0 fun i j=>.bl (p i j)))
  (h2:OpR X f (fun x y H Q=>∃ i j,x=.str i/\y=.str j/\Q (.bl (g i.cps.toList j.cps.toList)) H)):OpR X f (Da p g):=
 (h1.or h2).imp fun x y H Q q=>by cases x <;> cases y <;> first | exact .inl ⟨_,_,rfl,rfl,q⟩ | exact .inr ⟨_,_,rfl,rfl,q⟩ | exact q.elim
theorem Ta:OpR X (cu .Lt) (Da (fun i j=>decide (i < j)) fun i j=>decide (i < j)):=Bo Va IU
theorem Tb:OpR X (cu .Gt) (Da (fun i j=>decide (j < i)) fun i j=>decide (j < i)):=Bo Vc fun pins s σ H x y v u Q I rx ry h=>by
 obtain ⟨i,j,rfl,rfl,q⟩:=h;obtain ⟨t,rfl⟩:=rx;obtain ⟨t',rfl⟩:=ry;exact PySem.P.gt_str (vJ I q rfl)
theorem Tc:OpR X (cu .LtE) (Da (fun i j=>decide (i<=j)) fun i j=>!decide (j < i)):=Bo Vb fun pins s σ H x y v u Q I rx ry h=>by
 obtain ⟨i,j,rfl,rfl,q⟩:=h;obtain ⟨t,rfl⟩:=rx;obtain ⟨t',rfl⟩:=ry;exact PySem.P.le_str (vJ I q rfl)
end
structure Yd (t:TE):Prop where
 go:∀ σ H (Q Q':VK),(∀ v H1,Q v H1->Q' v H1)->t σ H Q->t σ H Q'
section
variable {X:Cx} {e a b:Expr} {t t' ta tb:TE} {pos:Pos}
theorem Ph (hu:X.A.units+1 < cLine):IxR X (fun x y H Q=>∃ p v,x=.ref p/\nV H p y (some v)/\Q v H):=by
 intro value slice pins s σ H x y v u Q I rx ry h hs;obtain ⟨p,w,rfl,g,q⟩:=h;cases rx
 have hT:=D9 I g;unfold subscriptTail;refine aa ?_;rw [getitemInPython_of_ne hT.not_modules];refine aa (wpAny_specialOf hT PySem.F.slot_dict_getitem.lookup ?_);have fin:wpAny (model X.prog X.w) X.A (subscripted slice false (.ref p) u) (fun r s₃=>wpAny (model X.prog X.w) X.A (letTemporaryGo value (.ref p) r >>= fun _=>pure r) (EP X pins σ Q) X.xe s₃) X.xe s:=by
  rw [hs];exact wpAny_operating (J3 hu I g ry fun w' s3 I3 rw'=>aa (wpAny_letTemporaryGo (ag ⟨w,H,I3,rw',q⟩)))
 first
  | exact ag (aa fin)
  | exact aa (ag (aa fin))
  | exact aa fin
def Vs (K:af):R2:=fun x y H Q=>match x with
 | .str z=>(match y with
  | .int i=>z.length<=aw/\∃ c,atI z.cps.toList i=some c/\Q (.str ⟨#[c]⟩) H
  | _=>False)
 | .ref p=>(∃ xs i v,y=.int i/\(SqL K H p xs\/SqT K H p xs)/\atI xs i=some v/\Q v H)\/∃ v,nV H p y (some v)/\Q v H
 | _=>False
theorem IxR.imp {r r':R2} (h:IxR X r) (i:∀ x y H Q,r' x y H Q->r x y H Q):IxR X r':=fun a b pins s σ H x y v u Q I rx ry q hs=>h a b pins s σ H x y v u Q I rx ry (i x y H Q q) hs
theorem ixC (hu:X.A.units+1 < cLine) (K:af) (hK:X.K=K):IxR X (Vs K):=by
 subst hK;refine (P4.or (SY.or (SZ.or (Ph hu)))).imp fun x y H Q h=>?_;cases x with
 | str z=>
  cases y with
  | int i=>obtain ⟨h1,c,h2,h3⟩:=h; exact .inr (.inr (.inl ⟨z,i,c,rfl,rfl,h1,h2,h3⟩))
  | _=>exact h.elim
 | ref p=>
  rcases h with ⟨xs,i,v,rfl,hs | hs,ha,hq⟩ | ⟨v,g,hq⟩
  ·exact .inl ⟨p,xs,i,v,rfl,rfl,hs,ha,hq⟩
  ·exact .inr (.inl ⟨p,xs,i,v,rfl,rfl,hs,ha,hq⟩)
  ·exact .inr (.inr (.inr ⟨p,v,rfl,g,hq⟩))
 | _=>exact h.elim
theorem Td (hu:X.A.units+1 < cLine) (K:af) (hK:X.K=K):OpR X (cu .In) (fun x y H Q=>rIn K false x y H Q\/∃ a o,y=.ref a/\nV H a x o/\Q (.bl o.isSome) H):=by
 subst hK;refine IZ.or fun pins s σ H x y v u Q I rx ry h=>?_;obtain ⟨a,o,rfl,g,q⟩:=h;cases ry
 exact Xq hu I g rx fun s' I'=>⟨.bl o.isSome,H,I',rfl,q⟩
theorem J7 (hu:X.A.units+1 < cLine) (K:af) (hK:X.K=K):OpR X (cu .NotIn) (fun x y H Q=>rIn K true x y H Q\/∃ a o,y=.ref a/\nV H a x o/\Q (.bl (!o.isSome)) H):=by
 subst hK;refine Bj.or fun pins s σ H x y v u Q I rx ry h=>?_;obtain ⟨a,o,rfl,g,q⟩:=h;cases ry
 exact P6 hu I g rx fun s' I'=>⟨.bl (!o.isSome),H,I',rfl,q⟩
def Vt (K:af):List V->Hp->VK->Prop:=fun xs H Q=>match xs with
 | [.str y]=>y.length<=aw/\Q (.int y.length) H
 | [.ref p]=>(∃ xs,(SqL K H p xs\/SqT K H p xs)/\Q (.int xs.length) H)\/∃ kvs,H p=some (.dK kvs)/\Q (.int kvs.length) H
 | _=>False
theorem J8 (K:af) (hK:X.K=K):bS X (.builtin "len") (Vt K):=by
 subst hK;intro pins s σ H xs us Q I r h
 match xs,h with
 | [.str y],h=>exact Lb pins s σ H _ us Q I r ⟨_,_,rfl,⟨h.1,rfl⟩,h.2⟩
 | [.ref p],h=>
  rcases h with ⟨ys,hs,q⟩ | ⟨kvs,hs,q⟩
  ·exact Bk pins s σ H _ us Q I r ⟨p,ys,rfl,hs,q⟩
  ·exact J5 pins s σ H _ us Q I r ⟨p,kvs,rfl,hs,q⟩
def Vu:List V->Hp->VK->Prop:=fun xs H Q=>match xs with
 | [.int i,.int j]=>Q (.int (if j > i then j else i)) H
 | _=>False
theorem J9 (hc:X.calm=true):bS X (.builtin "max") Vu:=(IV hc).imp fun xs H Q h=>by
 match xs,h with
 | [.int i,.int j],h=>exact ⟨i,j,rfl,h⟩
theorem Fz (K:af) (hK:X.K=K):bS X (.type "list") (fun xs H Q=>∃ p ys,xs=[.ref p]/\(SqL K H p ys\/SqT K H p ys)/\∀ l,H l=none->Q (.ref l) (upd H l (.lst ys))):=by subst hK; exact Bl
theorem Dc (K:af) (hK:X.K=K):bS X (.type "tuple") (fun xs H Q=>∃ p ys,xs=[.ref p]/\((SqL K H p ys/\∀ l,H l=none->Q (.ref l) (upd H l (.tup ys)))\/(SqT K H p ys/\Q (.ref p) H))):=by subst hK; exact zG
def Vv (ta:TA):TI:=fun σ H R=>ta σ H fun vs H1=>match vs with
 | [.int j]=>(-(2 ^ 62)<=j/\j < 2 ^ 62)/\R (Itr 0 j.toNat) H1
 | _=>False
theorem Pi {vs:List V} {Q:Int->Prop} (h:match vs with | [.int i]=>Q i | _=>False):∃ i,vs=[.int i]/\Q i:=by
 split at h
 · exact ⟨_,rfl,h⟩
 · exact h.elim
theorem pr1 {x:Expr} {ta:TA} {tg:Expr} {p pos:Pos} (hg:Gl X "range") (hm:X.mg "range" = none) (ha:PA X [x] ta) (hs:cf [x] X.env=[(false,eval x X.env)]:=by rfl):PI X tg (.Call (.Name "range" p) [x] [] pos) (Vv ta):=by
 intro pins s σ H R I h;refine Call_ (rK I hg hm boot_range (PyProof.Rows.callWith_type1 (thn (ha pos pins s σ H _ I h) fun us s1 hz=>?_) hs rfl));obtain ⟨vs,H1,I1,r1,q1⟩:=hz;obtain ⟨j,rfl,⟨h1,h2⟩,q⟩:=Pi q1;obtain ⟨u,rfl,t,rfl⟩:=vals1 r1;exact call_range_1 (L5 I1 (by omega) (by omega) h1 h2 (by simpa using q))
def Vw (t:TE):TO:=fun σ H Q=>t σ H fun x H1=>match x with
 | .int i=>Q (some i) H1
 | _=>False
theorem Lo {x:Expr} {te:TE} (h:PE X x te):PO X (some x) (Vw te):=by
 intro pins s σ H Q I hw;rw [evalPart_some];refine thn (h pins s σ H _ I hw) fun u s1 hz=>?_;obtain ⟨x,H1,I1,r1,q1⟩:=hz;cases x with
 | int i=>
  obtain ⟨t,rfl⟩:=r1;exact ⟨some i,H1,I1,.int i t,q1⟩
 | _=>exact q1.elim
end
structure Def (K:af) (mg:Str->Option Value) (x:Str) (st:Stmt) (f:Addr) (fd:c3) (ps:List Str):Prop where
 fn:Fun K x x st f fd
 mg:mg x=some (.ref f)
 bd:Binds K fd ps []
section
variable {X:Cx}
theorem Vx {x:Str} {st:Stmt} {f:Addr} {fd:c3} {ps:List Str} {k:Nat} {sp:Sp} {e:Expr} {es:List Expr} {t:TA} {p pos:Pos} (D:Def X.K X.mg x st f fd ps) (G:aU X.prog X.w X.K X.mg X.base CX0 k f fd ps sp) (hr:gG k X.A) (ha:PA X (e :: es) t)
  (hg:Gl X x:=by rfl) (hdb:(x == ("__debug__" : Str))=false:=by decide) (he:cf (e :: es) X.env=(false,eval e X.env) :: cf es X.env:=by rfl) (hpl:(backTo pos (cf es X.env)).any (·.1)=false:=by rfl):
  PE X (.Call (.Name x p) (e :: es) [] pos) (RX sp [] E0 t):=P0 G hr hg D.mg D.fn.kp D.bd .nil Vl ha hdb he hpl
end
theorem Te {α:Type} {xs:List α} {i:Int} (h0:0<=i) (h1:i < xs.length):∃ v,atI xs i=some v/\xs[i.toNat]?=some v:=by
 have h2:i.toNat < xs.length:=by omega
 refine ⟨xs[i.toNat],?_,by simp [h2]⟩;unfold atI ixN;rw [if_pos h0,if_pos h1];simp [h2]
theorem nX {α:Type} {xs:List α} {i:Nat} {v:α} (h:xs[i]?=some v):atI xs (i:Int)=some v:=by
 have h1:=(ab.mp h).1;unfold atI ixN;rw [if_pos (by omega),if_pos (by omega)];simpa using h
theorem D7.upd {H:Hp} {a:Addr} {o:HO} (h:H a=none):D7 H (upd H a o):=fun b u e=>by
 rw [bF (cO e h)]; exact e
theorem Def.mk' {K:af} {mg:Str->Option Value} {h:Heap} {x:Str} {st:Stmt} {f:Addr} {ps:List Str} {oc:Value} {od an:Option Addr} {osl:Array (Option Value)} {kV doc pm cdv ct:Value} (X:K.In h) (G:h.Ns b8 mg)
  (a:c5 K b8 x=some (some (.ref f))) (l:K.lookup f=some ⟨oc,od,.func (bw x x (aR st) (aQ st) (aE st) .none kV doc pm an cdv ct),osl⟩)
  (c:bq K cdv x=true) (k:bg K (.ref f)=true)
  (b:∀ (kV doc pm:Value) (an:Option Addr) (cdv ct:Value) (us:List Value),us.length=ps.length->bindArgs (bw x x (aR st) (aQ st) (aE st) .none kV doc pm an cdv ct) ⟨us,[]⟩=pure (ps.zip us)):
  Def K mg x st f (bw x x (aR st) (aQ st) (aE st) .none kV doc pm an cdv ct) ps:=
 ⟨Fu l c k,PySem.W.mg_of X G a,(Fu (st:=st) l c k).binds b⟩
end L2
namespace L2
open PySem PySem.Spec PyProof.Rows PySem.SeqAt
inductive D where
 | non | bl (b:Bool) | int (i:Int) | str (x:Str) | tup (xs:List D)
mutual
def D.depth:D->Nat
 | .tup xs=>D.depths xs+1
 | _=>0
def D.depths:List D->Nat
 | []=>0
 | x :: xs=>max (D.depth x) (D.depths xs)
end
theorem D.depths_le:∀ {xs:List D} {i:Nat} {d:D},xs[i]?=some d->d.depth<=D.depths xs
 | [],_,_,h=>by simp at h
 | x :: xs,0,d,h=>by
  have:x=d:=by simpa using h
  subst this
  show x.depth<=max x.depth (D.depths xs)
  omega
 | x :: xs,i+1,d,h=>by
  have:=D.depths_le (xs:=xs) (i:=i) (d:=d) (by simpa using h)
  show d.depth<=max x.depth (D.depths xs)
  omega
mutual
/-- the value x is the datum,in the heap H -/
def Rep (K:af) (H:Hp):D->V->Prop
 | .non,v=>v=.non
 | .bl b,v=>v=.bl b
 | .int i,v=>v=.int i
 | .str x,v=>v=.str x
 | .tup ds,v=>∃ a vs,v=.ref a/\SqT K H a vs/\cI K H ds vs
def cI (K:af) (H:Hp):List D->List V->Prop
 | [],[]=>True
 | d :: ds,v :: vs=>Rep K H d v/\cI K H ds vs
 | [],_ :: _=>False
 | _ :: _,[]=>False
end
mutual
/-- == -/
def eqD:D->D->Bool
 | .non,.non=>true
 | .bl a,.bl b=>a == b
 | .bl a,.int b=>(if a then 1 else 0) == b
 | .int a,.bl b=>a == (if b then 1 else 0)
 | .int a,.int b=>a == b
 | .str a,.str b=>a == b
 | .tup xs,.tup ys=>eI xs ys
 | _,_=>false
def eI:List D->List D->Bool
 | [],[]=>true
 | x :: xs,y :: ys=>eqD x y && eI xs ys
 | [],_ :: _=>false
 | _ :: _,[]=>false
end
mutual
/-- < (none: an error) -/
def ltD:D->D->Option Bool
 | .int a,.int b=>some (decide (a < b))
 | .str a,.str b=>some (decide (a.cps.toList < b.cps.toList))
 | .tup xs,.tup ys=>pI xs ys
 | _,_=>none
def pI:List D->List D->Option Bool
 | [],[]=>some false
 | [],_ :: _=>some true
 | _ :: _,[]=>some false
 | x :: xs,y :: ys=>if eqD x y=true then pI xs ys else ltD x y
end
mutual
theorem iQ:∀ d:D,eqD d d=true
 | .non=>rfl
 | .bl b=>by simp [eqD]
 | .int i=>by simp [eqD]
 | .str x=>by simp [eqD]
 | .tup xs=>by simp only [eqD]; exact Ab xs
theorem Ab:∀ ds:List D,eI ds ds=true
 | []=>rfl
 | d :: ds=>by simp only [eI,iQ d,Ab ds,Bool.and_self]
end
def jM (H H':Hp):Prop:=∀ a xs,Rd H a (.tup xs)->Rd H' a (.tup xs)
theorem jM.refl (H:Hp):jM H H:=fun _ _ h=>h
theorem jM.trans {H H1 H2:Hp} (a:jM H H1) (b:jM H1 H2):jM H H2:=fun c xs h=>b c xs (a c xs h)
theorem jM.same {H H':Hp} (s:D7 H H'):jM H H':=fun a xs h=>by
 rcases h with h | ⟨o,h⟩
 ·exact .inl (s _ _ h)
 ·exact .inr ⟨o,s _ _ h⟩
def Df:Option HO->Prop
 | some (.tup _)=>False
 | some (.frz _ _)=>False
 | _=>True
theorem jM.upd {H:Hp} {p:Addr} {o:HO} (h:Df (H p)):jM H (upd H p o):=fun a xs q=>by
 have ne:a≠p:=by
  rintro rfl;rcases q with q | ⟨ob,q⟩
  ·rw [q] at h; exact h
  ·rw [q] at h; exact h
 rcases q with q | ⟨ob,q⟩
 ·exact .inl (by rw [bF ne]; exact q)
 ·exact .inr ⟨ob,by rw [bF ne]; exact q⟩
theorem jM.sq {K:af} {H H':Hp} {a:Addr} {xs:List V} (t:jM H H') (h:SqT K H a xs):SqT K H' a xs:=by
 rcases h with h | h
 ·exact .inl (t a xs h)
 ·exact .inr h
section
variable {K:af} {H H':Hp}
mutual
theorem Rep.tp (t:jM H H'):∀ {d:D} {v:V},Rep K H d v->Rep K H' d v
 | .non,_,h=>h
 | .bl _,_,h=>h
 | .int _,_,h=>h
 | .str _,_,h=>h
 | .tup ds,_,⟨a,vs,e,q,r⟩=>⟨a,vs,e,t.sq q,cI.tp t r⟩
theorem cI.tp (t:jM H H'):∀ {ds:List D} {vs:List V},cI K H ds vs->cI K H' ds vs
 | [],[],_=>trivial
 | _ :: _,_ :: _,⟨h,r⟩=>⟨Rep.tp t h,cI.tp t r⟩
 | [],_ :: _,h=>h.elim
 | _ :: _,[],h=>h.elim
end
theorem cI.length:∀ {ds:List D} {vs:List V},cI K H ds vs->ds.length=vs.length
 | [],[],_=>rfl
 | _ :: _,_ :: _,⟨_,r⟩=>by simp [cI.length r]
 | [],_ :: _,h=>h.elim
 | _ :: _,[],h=>h.elim
theorem cI.get:∀ {ds:List D} {vs:List V} {i:Nat} {v:V},cI K H ds vs->vs[i]?=some v->∃ d,ds[i]?=some d/\Rep K H d v
 | [],[],_,_,_,e=>by simp at e
 | d :: _,w :: _,0,v,⟨h,_⟩,e=>by
  have:w=v:=by simpa using e
  subst this;exact ⟨d,rfl,h⟩
 | _ :: ds,_ :: vs,i+1,v,⟨_,r⟩,e=>by
  obtain ⟨d,h1,h2⟩:=cI.get (ds:=ds) (vs:=vs) (i:=i) (v:=v) r (by simpa using e)
  exact ⟨d,by simpa using h1,h2⟩
 | [],_ :: _,_,_,h,_=>h.elim
 | _ :: _,[],_,_,h,_=>h.elim
theorem cI.at:∀ {ds:List D} {vs:List V} {i:Nat} {d:D},cI K H ds vs->ds[i]?=some d->∃ v,vs[i]?=some v/\Rep K H d v
 | [],[],_,_,_,e=>by simp at e
 | d :: _,w :: _,0,d',⟨h,_⟩,e=>by
  have:d=d':=by simpa using e
  subst this;exact ⟨w,rfl,h⟩
 | _ :: ds,_ :: vs,i+1,d,⟨_,r⟩,e=>by
  obtain ⟨v,h1,h2⟩:=cI.at (ds:=ds) (vs:=vs) (i:=i) (d:=d) r (by simpa using e)
  exact ⟨v,by simpa using h1,h2⟩
 | [],_ :: _,_,_,h,_=>h.elim
 | _ :: _,[],_,_,h,_=>h.elim
end
section
variable {X:Cx} {pins:List (Addr×Obj)} {σ:St} {H:Hp} {s:Shared}
theorem eJ {A:Around} {s:Shared} {v u:Value} {b:Bool} (h:RcAt A s v u b) (hs:v=u->b=true) (hf:∀ f t,v≠.float f t):EqAt A s v u b:=fun prog w E Q hq=>by
 unfold eqBool;refine dg ?_;refine wpAny_ite_split (fun hab=>?_) (fun _=>?_)
 ·have e:=hs (eq_of_beq hab);subst e;exact aa (jt (ag hq))
 ·cases v <;> first | exact absurd rfl (hf _ _) | exact aa (h prog w E _ (i3 hq)) | (cases u <;> exact aa (h prog w E _ (i3 hq)))
theorem Ad {K:af} {H:Hp} {d:D} {x:V} {v:Value} (h:Rep K H d x) (r:RelV x v):∀ f t,v≠.float f t:=fun f t e=>by
 subst e;cases d with
 | non=>cases h; cases r
 | bl b=>cases h; cases r
 | int b=>cases h; obtain ⟨_,z⟩:=r; cases z
 | str b=>cases h; obtain ⟨_,z⟩:=r; cases z
 | tup ds=>obtain ⟨_,_,rfl,_⟩:=h; cases r
theorem mH (I:Inv X pins σ H s):∀ (n:Nat) (d e:D) (v:V),d.depth<=n->Rep X.K H d v->Rep X.K H e v->d=e
 | n,.non,e,v,_,h,h'=>by
  cases h
  cases e <;> first | (obtain ⟨_,_,z,_⟩:=h'; exact absurd z (by intro q; cases q)) | rfl | exact absurd h' (by intro z; cases z)
 | n,.bl b,e,v,_,h,h'=>by
  cases h
  cases e <;> first | (obtain ⟨_,_,z,_⟩:=h'; exact absurd z (by intro q; cases q)) | (cases h'; rfl) | exact absurd h' (by intro z; cases z)
 | n,.int i,e,v,_,h,h'=>by
  cases h
  cases e <;> first | (obtain ⟨_,_,z,_⟩:=h'; exact absurd z (by intro q; cases q)) | (cases h'; rfl) | exact absurd h' (by intro z; cases z)
 | n,.str x,e,v,_,h,h'=>by
  cases h
  cases e <;> first | (obtain ⟨_,_,z,_⟩:=h'; exact absurd z (by intro q; cases q)) | (cases h'; rfl) | exact absurd h' (by intro z; cases z)
 | 0,.tup ds,e,v,hd,h,h'=>absurd hd (by show ¬ D.depths ds+1<=0; omega)
 | n+1,.tup ds,e,v,hd,h,h'=>by
  obtain ⟨a,vs,rfl,q,r⟩:=h;cases e with
  | tup es=>
   obtain ⟨a',vs',ea,q',r'⟩:=h';cases ea
   have:=I.tuple_inj q q';subst this;have hd':D.depths ds+1<=n+1:=hd;have:ds=es:=by
    apply g7;intro i;cases hi:ds[i]? with
    | none=>
     have h1:=r.length;have h2:=r'.length;have:ds.length<=i:=jm.mp hi;exact (jm.mpr (by omega)).symm
    | some d=>
     obtain ⟨v,hv,hr⟩:=r.at hi;obtain ⟨e,he,hr'⟩:=r'.get hv;rw [he,mH I n d e v (by have:=D.depths_le hi; omega) hr hr']
   rw [this]
  | _=>cases h'
theorem pJ {xs ys:List D}:((ba (min xs.length ys.length)).all (fun j=>match xs[j]?,ys[j]? with | some x,some y=>eqD x y | _,_=>false) && xs.length == ys.length)=eI xs ys:=by
 induction xs generalizing ys with
 | nil=>
  cases ys with
  | nil=>rfl
  | cons y ys=>simp [eI]
 | cons x xs ih=>
  cases ys with
  | nil=>simp [eI]
  | cons y ys=>
   have:=ih (ys:=ys);have e:min (x :: xs).length (y :: ys).length=min xs.length ys.length+1:=by simp only [da]; omega
   rw [e,List.range_succ_eq_map,ib,List.all_map];simp only [List.getElem?_cons_zero,Function.comp_def,fv,da,eI];rw [<- this];have e2:(xs.length+1 == ys.length+1)=(xs.length == ys.length):=by simp
   rw [e2,Bool.and_assoc]
theorem Vy (I:Inv X pins σ H s):∀ (n:Nat) (d e:D) (A:Around) (x y:V) (v u:Value),d.depth<=n->A.units+n < cLine->Rep X.K H d x->Rep X.K H e y->RelV x v->RelV y u->RcAt A s v u (eqD d e):=by
 intro n
 induction n with
 | zero=>
  intro d e A x y v u hd hu hx hy rx ry;cases d with
  | tup ds=>exact absurd hd (by show ¬ D.depths ds+1<=0; omega)
  | non=>
   cases hx; cases rx;cases e with
   | non=>cases hy; cases ry; exact RcAt.none_none
   | bl b=>cases hy; cases ry; exact RcAt.none_bool b
   | int b=>cases hy; obtain ⟨t,rfl⟩:=ry; exact RcAt.none_int b t
   | str b=>cases hy; obtain ⟨t,rfl⟩:=ry; exact RcAt.none_str b t
   | tup es=>obtain ⟨a,vs,rfl,q,r⟩:=hy; cases ry; obtain ⟨its,_,p,_⟩:=I.tuple q; exact RcAt.none_tuple p (by omega)
  | bl a=>
   cases hx; cases rx;cases e with
   | non=>cases hy; cases ry; exact RcAt.bool_none a
   | bl b=>cases hy; cases ry; exact RcAt.bool_bool a b
   | int b=>cases hy; obtain ⟨t,rfl⟩:=ry; exact RcAt.bool_int a b t
   | str b=>cases hy; obtain ⟨t,rfl⟩:=ry; exact RcAt.bool_str a b t
   | tup es=>obtain ⟨a',vs,rfl,q,r⟩:=hy; cases ry; obtain ⟨its,_,p,_⟩:=I.tuple q; exact RcAt.bool_tuple a p (by omega)
  | int a=>
   cases hx; obtain ⟨t',rfl⟩:=rx;cases e with
   | non=>cases hy; cases ry; exact RcAt.int_none a t'
   | bl b=>cases hy; cases ry; exact RcAt.int_bool a t' b
   | int b=>cases hy; obtain ⟨t,rfl⟩:=ry; exact RcAt.int_int a t' b t
   | str b=>cases hy; obtain ⟨t,rfl⟩:=ry; exact RcAt.int_str a t' b t
   | tup es=>obtain ⟨a',vs,rfl,q,r⟩:=hy; cases ry; obtain ⟨its,_,p,_⟩:=I.tuple q; exact RcAt.int_tuple a t' p (by omega)
  | str a=>
   cases hx; obtain ⟨t',rfl⟩:=rx;cases e with
   | non=>cases hy; cases ry; exact RcAt.str_none a t'
   | bl b=>cases hy; cases ry; exact RcAt.str_bool a t' b
   | int b=>cases hy; obtain ⟨t,rfl⟩:=ry; exact RcAt.str_int a t' b t
   | str b=>cases hy; obtain ⟨t,rfl⟩:=ry; exact RcAt.str_str a t' b t
   | tup es=>obtain ⟨a',vs,rfl,q,r⟩:=hy; cases ry; obtain ⟨its,_,p,_⟩:=I.tuple q; exact RcAt.str_tuple a t' p (by omega)
 | succ n ih=>
  intro d e A x y v u hd hu hx hy rx ry
  by_cases h0:d.depth<=n
  ·exact ih d e A x y v u h0 (by omega) hx hy rx ry
  ·cases d with
   | non=>exact absurd (show D.depth .non<=n from b9 n) h0
   | bl b=>exact absurd (show D.depth (.bl b)<=n from b9 n) h0
   | int b=>exact absurd (show D.depth (.int b)<=n from b9 n) h0
   | str b=>exact absurd (show D.depth (.str b)<=n from b9 n) h0
   | tup ds=>
    have hds:D.depths ds<=n:=by have:D.depths ds+1<=n+1:=hd; omega
    obtain ⟨a,vs,rfl,q,r⟩:=hx;cases rx
    obtain ⟨its,rv,p,_⟩:=I.tuple q;cases e with
    | non=>cases hy; cases ry; exact RcAt.tuple_none p (by omega)
    | bl b=>cases hy; cases ry; exact RcAt.tuple_bool b p (by omega)
    | int b=>cases hy; obtain ⟨t,rfl⟩:=ry; exact RcAt.tuple_int b t p (by omega)
    | str b=>cases hy; obtain ⟨t,rfl⟩:=ry; exact RcAt.tuple_str b t p (by omega)
    | tup es=>
     obtain ⟨a',vs',rfl,q',r'⟩:=hy;cases ry
     obtain ⟨its',rv',p',_⟩:=I.tuple q';have l1:=r.length;have l2:=r'.length;have l3:=rv.length;have l4:=rv'.length;have key:=RcAt.tuples (A:=A) (e:=fun j=>match ds[j]?,es[j]? with | some x,some y=>eqD x y | _,_=>false) p p' (by omega) (fun j h1 h2=>by
      have h1':j < ds.length:=by simp at h1; omega
      have h2':j < es.length:=by simp at h2; omega
      have g1:ds[j]?=some ds[j]:=by simp [h1']
      have g2:es[j]?=some es[j]:=by simp [h2']
      obtain ⟨xv,hxv,hrx⟩:=r.at g1;obtain ⟨yv,hyv,hry⟩:=r'.at g2;obtain ⟨xu,hxu,hru⟩:=rv.get hxv;obtain ⟨yu,hyu,hru'⟩:=rv'.get hyv;have e1:its.toArray[j]=xu:=by
       have:its[j]?=some xu:=hxu;simpa using (ab.mp this).2
      have e2:its'.toArray[j]=yu:=by
       have:its'[j]?=some yu:=hyu;simpa using (ab.mp this).2
      rw [e1,e2];simp only [g1,g2];have hdj:=D.depths_le g1;refine eJ (ih ds[j] es[j] A.in1 xv yv xu yu (by omega) (by show A.units+1+n < cLine; omega) hrx hry hru hru') (fun ev=>by
      subst ev;have exy:xv=yv:=RelV.inj hru hru';subst exy;rw [mH I n ds[j] es[j] xv (by omega) hrx hry];exact iQ _) (Ad hrx hru))
     have sz:((ba (min its.toArray.size its'.toArray.size)).all (fun j=>match ds[j]?,es[j]? with | some x,some y=>eqD x y | _,_=>false) && its.toArray.size == its'.toArray.size)=eqD (.tup ds) (.tup es):=by
      have a1:its.toArray.size=ds.length:=by simp; omega
      have a2:its'.toArray.size=es.length:=by simp; omega
      rw [a1,a2];simp only [eqD];exact pJ
     rw [<- sz];exact key
theorem Lp (I:Inv X pins σ H s) {n:Nat} {d e:D} {A:Around} {x y:V} {v u:Value} (hd:d.depth<=n) (hu:A.units+n < cLine) (hx:Rep X.K H d x) (hy:Rep X.K H e y) (rx:RelV x v) (ry:RelV y u):EqAt A s v u (eqD d e):=
 eJ (Vy I n d e A x y v u hd hu hx hy rx ry) (fun ev=>by
  subst ev;have exy:x=y:=RelV.inj rx ry;subst exy;rw [mH I n d e x hd hx hy];exact iQ _) (Ad hx rx)
theorem Tf (I:Inv X pins σ H s):∀ (n:Nat) (d e:D) (A:Around) (x y:V) (v u:Value),d.depth<=n->A.units+n < cLine->Rep X.K H d x->Rep X.K H e y->RelV x v->RelV y u->RcNeAt A s v u (!eqD d e):=by
 intro n
 induction n with
 | zero=>
  intro d e A x y v u hd hu hx hy rx ry;cases d with
  | tup ds=>exact absurd hd (by show ¬ D.depths ds+1<=0; omega)
  | non=>
   cases hx; cases rx;cases e with
   | non=>cases hy; cases ry; exact RcNeAt.none_none
   | bl b=>cases hy; cases ry; exact RcNeAt.none_bool b
   | int b=>cases hy; obtain ⟨t,rfl⟩:=ry; exact RcNeAt.none_int b t
   | str b=>cases hy; obtain ⟨t,rfl⟩:=ry; exact RcNeAt.none_str b t
   | tup es=>obtain ⟨a,vs,rfl,q,r⟩:=hy; cases ry; obtain ⟨its,_,p,_⟩:=I.tuple q; exact RcNeAt.none_tuple p (by omega)
  | bl a=>
   cases hx; cases rx;cases e with
   | non=>cases hy; cases ry; exact RcNeAt.bool_none a
   | bl b=>cases hy; cases ry; exact RcNeAt.bool_bool a b
   | int b=>cases hy; obtain ⟨t,rfl⟩:=ry; exact RcNeAt.bool_int a b t
   | str b=>cases hy; obtain ⟨t,rfl⟩:=ry; exact RcNeAt.bool_str a b t
   | tup es=>obtain ⟨a',vs,rfl,q,r⟩:=hy; cases ry; obtain ⟨its,_,p,_⟩:=I.tuple q; exact RcNeAt.bool_tuple a p (by omega)
  | int a=>
   cases hx; obtain ⟨t',rfl⟩:=rx;cases e with
   | non=>cases hy; cases ry; exact RcNeAt.int_none a t'
   | bl b=>cases hy; cases ry; exact RcNeAt.int_bool a t' b
   | int b=>cases hy; obtain ⟨t,rfl⟩:=ry; exact RcNeAt.int_int a t' b t
   | str b=>cases hy; obtain ⟨t,rfl⟩:=ry; exact RcNeAt.int_str a t' b t
   | tup es=>obtain ⟨a',vs,rfl,q,r⟩:=hy; cases ry; obtain ⟨its,_,p,_⟩:=I.tuple q; exact RcNeAt.int_tuple a t' p (by omega)
  | str a=>
   cases hx; obtain ⟨t',rfl⟩:=rx;cases e with
   | non=>cases hy; cases ry; exact RcNeAt.str_none a t'
   | bl b=>cases hy; cases ry; exact RcNeAt.str_bool a t' b
   | int b=>cases hy; obtain ⟨t,rfl⟩:=ry; exact RcNeAt.str_int a t' b t
   | str b=>cases hy; obtain ⟨t,rfl⟩:=ry; exact RcNeAt.str_str a t' b t
   | tup es=>obtain ⟨a',vs,rfl,q,r⟩:=hy; cases ry; obtain ⟨its,_,p,_⟩:=I.tuple q; exact RcNeAt.str_tuple a t' p (by omega)
 | succ n ih=>
  intro d e A x y v u hd hu hx hy rx ry
  by_cases h0:d.depth<=n
  ·exact ih d e A x y v u h0 (by omega) hx hy rx ry
  ·cases d with
   | non=>exact absurd (show D.depth .non<=n from b9 n) h0
   | bl b=>exact absurd (show D.depth (.bl b)<=n from b9 n) h0
   | int b=>exact absurd (show D.depth (.int b)<=n from b9 n) h0
   | str b=>exact absurd (show D.depth (.str b)<=n from b9 n) h0
   | tup ds=>
    have hds:D.depths ds<=n:=by have:D.depths ds+1<=n+1:=hd; omega
    obtain ⟨a,vs,rfl,q,r⟩:=hx;cases rx
    obtain ⟨its,rv,p,_⟩:=I.tuple q;cases e with
    | non=>cases hy; cases ry; exact RcNeAt.tuple_none p (by omega)
    | bl b=>cases hy; cases ry; exact RcNeAt.tuple_bool b p (by omega)
    | int b=>cases hy; obtain ⟨t,rfl⟩:=ry; exact RcNeAt.tuple_int b t p (by omega)
    | str b=>cases hy; obtain ⟨t,rfl⟩:=ry; exact RcNeAt.tuple_str b t p (by omega)
    | tup es=>
     obtain ⟨a',vs',rfl,q',r'⟩:=hy;cases ry
     obtain ⟨its',rv',p',_⟩:=I.tuple q';have l1:=r.length;have l2:=r'.length;have l3:=rv.length;have l4:=rv'.length;have key:=RcNeAt.tuples (A:=A) (e:=fun j=>match ds[j]?,es[j]? with | some x,some y=>eqD x y | _,_=>false) p p' (by omega) (fun j h1 h2=>by
      have h1':j < ds.length:=by simp at h1; omega
      have h2':j < es.length:=by simp at h2; omega
      have g1:ds[j]?=some ds[j]:=by simp [h1']
      have g2:es[j]?=some es[j]:=by simp [h2']
      obtain ⟨xv,hxv,hrx⟩:=r.at g1;obtain ⟨yv,hyv,hry⟩:=r'.at g2;obtain ⟨xu,hxu,hru⟩:=rv.get hxv;obtain ⟨yu,hyu,hru'⟩:=rv'.get hyv;have e1:its.toArray[j]=xu:=by
       have:its[j]?=some xu:=hxu;simpa using (ab.mp this).2
      have e2:its'.toArray[j]=yu:=by
       have:its'[j]?=some yu:=hyu;simpa using (ab.mp this).2
      rw [e1,e2];simp only [g1,g2];have hdj:=D.depths_le g1;exact Lp I (n:=n) (by omega) (by show A.units+1+n < cLine; omega) hrx hry hru hru')
     have sz:(!((ba (min its.toArray.size its'.toArray.size)).all (fun j=>match ds[j]?,es[j]? with | some x,some y=>eqD x y | _,_=>false) && its.toArray.size == its'.toArray.size))=(!eqD (.tup ds) (.tup es)):=by
      have a1:its.toArray.size=ds.length:=by simp; omega
      have a2:its'.toArray.size=es.length:=by simp; omega
      rw [a1,a2];simp only [eqD];rw [pJ]
     rw [<- sz];exact key
def Xr (K:af):R2:=fun x y H Q=>∃ d e,Rep K H d x/\Rep K H e y/\d.depth<=40/\Q (.bl (eqD d e)) H
def Xs (K:af):R2:=fun x y H Q=>∃ d e,Rep K H d x/\Rep K H e y/\d.depth<=40/\Q (.bl (!eqD d e)) H
theorem Tg (hu:X.A.units+64 < cLine) (K:af) (hK:X.K=K):OpR X (cu .Eq) (Xr K):=by
 subst hK;intro pins s σ H x y v u Q I rx ry h;obtain ⟨d,e,hx,hy,hd,q⟩:=h;exact Vy I 40 d e X.A x y v u hd (by omega) hx hy rx ry X.prog X.w X.xe _ ⟨.bl _,H,I,rfl,q⟩
theorem Th (hu:X.A.units+64 < cLine) (K:af) (hK:X.K=K):OpR X (cu .NotEq) (Xs K):=by
 subst hK;intro pins s σ H x y v u Q I rx ry h;obtain ⟨d,e,hx,hy,hd,q⟩:=h;exact Tf I 40 d e X.A x y v u hd (by omega) hx hy rx ry X.prog X.w X.xe _ ⟨.bl _,H,I,rfl,q⟩
def Dg (K:af) (H:Hp) (ds:List D) (v:V):Prop:=∃ a vs,v=.ref a/\SqL K H a vs/\cI K H ds vs
theorem rR {xs ys:List D} (h:xs.length=ys.length):(ba xs.length).all (fun j=>match xs[j]?,ys[j]? with | some x,some y=>eqD x y | _,_=>false)=eI xs ys:=by
 have:=pJ (xs:=xs) (ys:=ys);rw [h,Nat.min_self,beq_self_eq_true,Bool.and_true] at this;rw [h];exact this
theorem vS {xs ys:List D} (h:eI xs ys=true):xs.length=ys.length:=by
 rw [<- pJ,cq] at h;exact eq_of_beq h.2
theorem nY {I:Inv X pins σ H s} {A:Around} {ds es:List D} {vs vs':List V} {its its':List Value} (r:cI X.K H ds vs) (r':cI X.K H es vs') (rv:aM vs its) (rv':aM vs' its') (hd:D.depths ds<=40) (hu:A.units+42 < cLine):
  ∀ j (h1:j < its.toArray.size) (h2:j < its'.toArray.size),EqAt A.in1 s its.toArray[j] its'.toArray[j] (match ds[j]?,es[j]? with | some x,some y=>eqD x y | _,_=>false):=fun j h1 h2=>by
 have l1:=r.length;have l2:=r'.length;have l3:=rv.length;have l4:=rv'.length;have h1':j < ds.length:=by simp at h1; omega
 have h2':j < es.length:=by simp at h2; omega
 have g1:ds[j]?=some ds[j]:=by simp [h1']
 have g2:es[j]?=some es[j]:=by simp [h2']
 obtain ⟨xv,hxv,hrx⟩:=r.at g1;obtain ⟨yv,hyv,hry⟩:=r'.at g2;obtain ⟨xu,hxu,hru⟩:=rv.get hxv;obtain ⟨yu,hyu,hru'⟩:=rv'.get hyv;have e1:its.toArray[j]=xu:=by simpa using (ab.mp hxu).2
 have e2:its'.toArray[j]=yu:=by simpa using (ab.mp hyu).2
 rw [e1,e2];simp only [g1,g2];have hdj:=D.depths_le g1;exact Lp I (n:=40) (by omega) (by show A.units+1+40 < cLine; omega) hrx hry hru hru'
def Xt (K:af):R2:=fun x y H Q=>∃ ds es,Dg K H ds x/\Dg K H es y/\D.depths ds<=40/\Q (.bl (eI ds es)) H
def Xu (K:af):R2:=fun x y H Q=>∃ ds es,Dg K H ds x/\Dg K H es y/\D.depths ds<=40/\Q (.bl (!eI ds es)) H
theorem Ti (hu:X.A.units+64 < cLine) (K:af) (hK:X.K=K):OpR X (cu .Eq) (Xt K):=by
 subst hK;intro pins s σ H x y v u Q I rx ry h;obtain ⟨ds,es,⟨a,vs,rfl,q,r⟩,⟨b,vs',rfl,q',r'⟩,hd,k⟩:=h;cases rx; cases ry;obtain ⟨its,rv,p,_⟩:=I.list q;obtain ⟨its',rv',p',_⟩:=I.list q';have l1:=r.length;have l2:=r'.length;have l3:=rv.length;have l4:=rv'.length
 by_cases hl:ds.length=es.length
 ·refine eq_listAt p.isList p'.isList (by simp; omega) (by omega) (nY (I:=I) r r' rv rv' hd (by omega)) ⟨.bl _,H,I,rfl,?_⟩;have e1:its.toArray.size=ds.length:=by simp; omega
  rw [e1,rR hl];exact k
 ·refine eq_list_lengthsAt p.isList p'.isList (by simp; omega) (by omega) ⟨.bl false,H,I,rfl,?_⟩;have e:eI ds es=false:=by
   cases h:eI ds es with
   | false=>rfl
   | true=>exact absurd (vS h) hl
  rw [e] at k;exact k
theorem Tj (hu:X.A.units+64 < cLine) (K:af) (hK:X.K=K):OpR X (cu .NotEq) (Xu K):=by
 subst hK;intro pins s σ H x y v u Q I rx ry h;obtain ⟨ds,es,⟨a,vs,rfl,q,r⟩,⟨b,vs',rfl,q',r'⟩,hd,k⟩:=h;cases rx; cases ry;obtain ⟨its,rv,p,_⟩:=I.list q;obtain ⟨its',rv',p',_⟩:=I.list q';have l1:=r.length;have l2:=r'.length;have l3:=rv.length;have l4:=rv'.length
 by_cases hl:ds.length=es.length
 ·refine RcNeAt.lists p.isList p'.isList (by simp; omega) (by omega) (nY (I:=I) r r' rv rv' hd (by omega)) X.prog X.w X.xe _ ⟨.bl _,H,I,rfl,?_⟩;have e1:its.toArray.size=ds.length:=by simp; omega
  rw [e1,rR hl];exact k
 ·refine RcNeAt.lists_lengths p.isList p'.isList (by simp; omega) (by omega) X.prog X.w X.xe _ ⟨.bl true,H,I,rfl,?_⟩;have e:eI ds es=false:=by
   cases h:eI ds es with
   | false=>rfl
   | true=>exact absurd (vS h) hl
  rw [e] at k;exact k
def Vz (K:af) (neg:Bool):R2:=fun x y H Q=>∃ d p ds vs,y=.ref p/\(SqL K H p vs\/SqT K H p vs)/\Rep K H d x/\cI K H ds vs/\D.depths ds<=40/\Q (.bl (if neg then !ds.any (fun e=>eqD e d) else ds.any (fun e=>eqD e d))) H
noncomputable def isD (K:af) (H:Hp) (d:D) (u:Value):Bool:=@decide (∃ e x,RelV x u/\Rep K H e x/\e.depth<=40/\eqD e d=true) (fw _)
theorem Lq (I:Inv X pins σ H s) {d e:D} {x:V} {u:Value} (r:RelV x u) (h:Rep X.K H e x) (hd:e.depth<=40):isD X.K H d u=eqD e d:=by
 unfold isD;cases q:eqD e d with
 | true=>exact @decide_eq_true _ (fw _) ⟨e,x,r,h,hd,q⟩
 | false=>
  refine @decide_eq_false _ (fw _) ?_;rintro ⟨e',x',r',h',hd',q'⟩;have ex:x'=x:=RelV.inj r' r;subst ex;rw [mH I 40 e' e x' hd' h' h] at q';rw [q] at q';cases q'
theorem pK (I:Inv X pins σ H s) {d:D}:∀ {ds:List D} {vs:List V} {us:List Value},cI X.K H ds vs->aM vs us->D.depths ds<=40->us.any (isD X.K H d)=ds.any fun e=>eqD e d
 | [],[],_,_,.nil,_=>rfl
 | e :: ds,_ :: _,_,⟨h,r⟩,.cons rv rvs,hd=>by
  have h1:e.depth<=40/\D.depths ds<=40:=by
   have:max e.depth (D.depths ds)<=40:=hd;omega
  rw [j8,j8,Lq I rv h h1.1,pK I r rvs h1.2]
 | [],_ :: _,_,h,_,_=>h.elim
 | _ :: _,[],_,h,_,_=>h.elim
theorem pL (I:Inv X pins σ H s) {A:Around} {d:D} {x:V} {v:Value} (hx:Rep X.K H d x) (rx:RelV x v) (hu:A.units+42 < cLine):∀ {ds:List D} {vs:List V} {us:List Value},cI X.K H ds vs->aM vs us->D.depths ds<=40->∀ u∈us,EqAt A.in1 s u v (isD X.K H d u)
 | [],[],_,_,.nil,_=>fun u hu=>by cases hu
 | e :: ds,_ :: _,_,⟨h,r⟩,.cons rv rvs,hd=>fun u hm=>by
  have h1:e.depth<=40/\D.depths ds<=40:=by
   have:max e.depth (D.depths ds)<=40:=hd;omega
  rcases bc.mp hm with rfl | hm
  ·rw [Lq I rv h h1.1];exact Lp I (n:=40) h1.1 (by show A.units+1+40 < cLine; omega) h hx rv rx
  ·exact pL I hx rx hu r rvs h1.2 u hm
 | [],_ :: _,_,h,_,_=>h.elim
 | _ :: _,[],_,h,_,_=>h.elim
theorem Tn (hu:X.A.units+64 < cLine) (K:af) (hK:X.K=K):OpR X (cu .In) (Vz K false):=by
 subst hK;intro pins s σ H x y v u Q I rx ry h;obtain ⟨d,p,ds,vs,rfl,hq,hx,hr,hd,k⟩:=h;cases ry
 rcases hq with hq | hq
 ·obtain ⟨its,r,pl,hz⟩:=I.list hq;refine SeqAt.in_listAt (isD X.K H d) pl.isList (fun w hw=>pL I hx rx (by omega) hr r hd w (by simpa using hw)) ⟨.bl _,H,I,rfl,?_⟩
  rw [show its.toArray.any (isD X.K H d)=its.any (isD X.K H d) by simp,pK I hr r hd];exact k
 ·obtain ⟨its,r,pl,hz⟩:=I.tuple hq;refine SeqAt.in_tupleAt (isD X.K H d) pl (fun w hw=>pL I hx rx (by omega) hr r hd w (by simpa using hw)) ⟨.bl _,H,I,rfl,?_⟩
  rw [show its.toArray.any (isD X.K H d)=its.any (isD X.K H d) by simp,pK I hr r hd];exact k
theorem J' (hu:X.A.units+64 < cLine) (K:af) (hK:X.K=K):OpR X (cu .NotIn) (Vz K true):=by
 subst hK;intro pins s σ H x y v u Q I rx ry h;obtain ⟨d,p,ds,vs,rfl,hq,hx,hr,hd,k⟩:=h;cases ry
 rcases hq with hq | hq
 ·obtain ⟨its,r,pl,hz⟩:=I.list hq;refine SeqAt.notIn_listAt (isD X.K H d) pl.isList (fun w hw=>pL I hx rx (by omega) hr r hd w (by simpa using hw)) ⟨.bl _,H,I,rfl,?_⟩
  rw [show its.toArray.any (isD X.K H d)=its.any (isD X.K H d) by simp,pK I hr r hd];exact k
 ·obtain ⟨its,r,pl,hz⟩:=I.tuple hq;refine SeqAt.notIn_tupleAt (isD X.K H d) pl (fun w hw=>pL I hx rx (by omega) hr r hd w (by simpa using hw)) ⟨.bl _,H,I,rfl,?_⟩
  rw [show its.toArray.any (isD X.K H d)=its.any (isD X.K H d) by simp,pK I hr r hd];exact k
end
end L2
namespace L2
open PySem
def keyLt:Sum Int Str->Sum Int Str->Bool
 | .inl a,.inl b=>decide (a < b)
 | .inr a,.inr b=>decide (a.cps.toList < b.cps.toList)
 | _,_=>false
def bM:List (Sum Int Str)->List (Sum Int Str)->Bool
 | [],[]=>false
 | [],_ :: _=>true
 | _ :: _,[]=>false
 | x :: xs,y :: ys=>if x=y then bM xs ys else keyLt x y
def cW:Sum Int Str->Bool
 | .inl _=>true
 | .inr _=>false
abbrev shape (ks:List (Sum Int Str)):List Bool:=ks.map cW
theorem Pj {a b:Str} (h:a.cps.toList=b.cps.toList):a=b:=by
 cases a; cases b
 congr
 exact Array.toList_inj.mp h
theorem Lr {a b:Sum Int Str} (h:keyLt a b=true):keyLt b a=false:=by
 cases a <;> cases b <;> first | rfl | skip
 ·have:_ < _:=of_decide_eq_true h;exact decide_eq_false (by omega)
 ·exact decide_eq_false (List.lt_asymm (of_decide_eq_true h))
theorem Ae {a b:Sum Int Str} (k:cW a=cW b) (h:keyLt a b=false) (h':keyLt b a=false):a=b:=by
 cases a <;> cases b <;> first | cases k | skip
 ·have h1:=of_decide_eq_false h;have h2:=of_decide_eq_false h'
  congr 1
  omega
 ·have h1:=of_decide_eq_false h;have h2:=of_decide_eq_false h'
  congr 1
  exact Pj (List.le_antisymm (List.not_lt.mp h2) (List.not_lt.mp h1))
theorem Ls:∀ {a b c:Sum Int Str},cW a=cW b->cW b=cW c->keyLt b a=false->keyLt c b=false->keyLt c a=false
 | .inl a,.inl b,.inl c,_,_,h,h'=>by
  have h1:¬ b < a:=of_decide_eq_false h;have h2:¬ c < b:=of_decide_eq_false h';exact decide_eq_false (by omega)
 | .inr a,.inr b,.inr c,_,_,h,h'=>by
  have h1:a.cps.toList<=b.cps.toList:=List.not_lt.mp (of_decide_eq_false h);have h2:b.cps.toList<=c.cps.toList:=List.not_lt.mp (of_decide_eq_false h');exact decide_eq_false (List.not_lt.mpr (List.le_trans h1 h2))
 | .inl _,.inr _,_,k,_,_,_=>by cases k
 | .inr _,.inl _,_,k,_,_,_=>by cases k
 | .inl _,.inl _,.inr _,_,k,_,_=>by cases k
 | .inr _,.inr _,.inl _,_,k,_,_=>by cases k
theorem pM:∀ {a b:List (Sum Int Str)},bM a b=true->bM b a=false
 | [],[],_=>rfl
 | [],_ :: _,_=>rfl
 | _ :: _,[],h=>by cases h
 | x :: xs,y :: ys,h=>by
  unfold bM at h ⊢
  by_cases e:x=y
  ·subst e;rw [if_pos rfl] at h ⊢;exact pM h
  ·rw [if_neg e] at h;rw [if_neg fun z=>e z.symm];exact Lr h
theorem kM:∀ {a b:List (Sum Int Str)},shape a=shape b->bM a b=false->bM b a=false->a=b
 | [],[],_,_,_=>rfl
 | [],_ :: _,s,_,_=>by cases s
 | _ :: _,[],s,_,_=>by cases s
 | x :: xs,y :: ys,s,h,h'=>by
  have s1:cW x=cW y:=by simpa using congrArg List.head? s
  have s2:shape xs=shape ys:=by simpa using congrArg List.tail s
  unfold bM at h h'
  by_cases e:x=y
  ·subst e;rw [if_pos rfl] at h h';rw [kM s2 h h']
  ·rw [if_neg e] at h;rw [if_neg fun z=>e z.symm] at h';exact absurd (Ae s1 h h') e
theorem mI:∀ {a b c:List (Sum Int Str)},shape a=shape b->shape b=shape c->bM b a=false->bM c b=false->bM c a=false
 | [],[],[],_,_,_,_=>rfl
 | [],[],_ :: _,_,s',_,_=>by cases s'
 | [],_ :: _,_,s,_,_,_=>by cases s
 | _ :: _,[],_,s,_,_,_=>by cases s
 | _ :: _,_ :: _,[],_,s',_,_=>by cases s'
 | x :: xs,y :: ys,z :: zs,s,s',h,h'=>by
  have s1:cW x=cW y:=by simpa using congrArg List.head? s
  have s2:shape xs=shape ys:=by simpa using congrArg List.tail s
  have s3:cW y=cW z:=by simpa using congrArg List.head? s'
  have s4:shape ys=shape zs:=by simpa using congrArg List.tail s'
  unfold bM at h h' ⊢
  by_cases e:y=x
  ·subst e;rw [if_pos rfl] at h
   by_cases e':z=y
   ·subst e';rw [if_pos rfl] at h' ⊢;exact mI s2 s4 h h'
   ·rw [if_neg e'] at h' ⊢;exact h'
  ·rw [if_neg e] at h
   by_cases e':z=y
   ·subst e';rw [if_neg e];exact h
   ·rw [if_neg e'] at h'
    by_cases e2:z=x
    ·subst e2;exfalso;exact e (Ae s3 h h')
    ·rw [if_neg e2];exact Ls s1 s3 h h'
end L2
namespace L2
open PySem PySem.W PyProof.Rows
section
variable (lt:Nat->Nat->Bool)
def evT {α:Type}:KasT α->α
 | .ret a=>a
 | .ask i j k=>evT (k (lt i j))
theorem iR {α β:Type} (f:α->KasT β):∀ t:KasT α,evT lt (t.bind f)=evT lt (f (evT lt t))
 | .ret _=>rfl
 | .ask i j k=>iR f (k (lt i j))
abbrev pa' (p:Array Nat) (i:Nat):Nat:=p.getD i 0
def STo (p:Array Nat) (k:Nat):Prop:=∀ i j,i<=j->j < k->lt (pa' p j) (pa' p i)=false
def NIc (p:Array Nat) (k:Nat):Prop:=∀ i j,i<=j->j < k->lt (pa' p i) (pa' p j)=false
end
theorem gI {p:Array Nat} {i:Nat}:pa' p i=(p[i]?).getD 0:=by
 unfold pa';simp [Array.getD_eq_getD_getElem?]
structure Lu (lt:Nat->Nat->Bool) (p:Array Nat) (n f:Nat) (r:Array Nat×Nat×Nat):Prop where
 perm:r.1.Perm p
 lo:n<=r.2.1
 hi:r.2.1<=n+f
 q:r.2.2+1<=r.2.1
 ni:NIc lt r.1 r.2.1
 eq:∀ i j,r.2.1 - (r.2.2+1)<=i->i < r.2.1->r.2.1 - (r.2.2+1)<=j->j < r.2.1->lt (pa' r.1 i) (pa' r.1 j)=false
section
variable {lt:Nat->Nat->Bool} (tr:∀ i j k,lt j i=false->lt k j=false->lt k i=false) (as:∀ i j,lt i j=true->lt j i=false)
include as in
theorem fL (i:Nat):lt i i=false:=by
 cases h:lt i i with
 | false=>rfl
 | true=>have:=as i i h; rw [h] at this; exact this
include tr as
theorem FA (p:Array Nat):∀ f n,1<=n->STo lt p n->n<=evT lt (kas_asc p f n)/\evT lt (kas_asc p f n)<=n+f/\STo lt p (evT lt (kas_asc p f n))
 | 0,n,_,h=>⟨ai _,ai _,h⟩
 | f+1,n,h1,h=>by
  have e:evT lt (kas_asc p (f+1) n)=evT lt (if lt (p.getD n 0) (p.getD (n - 1) 0)=true then KasT.ret n else kas_asc p f (n+1)):=rfl;rw [e]
  by_cases c:lt (p.getD n 0) (p.getD (n - 1) 0)=true
  ·rw [if_pos c];exact ⟨ai _,Nat.le_add_right _ _,h⟩
  ·rw [if_neg c];have c':lt (p.getD n 0) (p.getD (n - 1) 0)=false:=by simpa using c
   have h2:STo lt p (n+1):=fun i j hij hj=>by
    rcases f6 (Nat.le_of_lt_succ hj) with hj | rfl
    ·exact h i j hij hj
    ·rcases f6 hij with hi | rfl
     ·exact tr _ _ _ (h i (j - 1) (by omega) (by omega)) c'
     ·exact fL as _
   obtain ⟨a,b,c⟩:=FA p f (n+1) (by omega) h2;exact ⟨by omega,by omega,c⟩
theorem rev_eq {p:Array Nat} {a n:Nat} (hn:n<=p.size) (eq:∀ i j,a<=i->i < n->a<=j->j < n->lt (pa' p i) (pa' p j)=false) (i j:Nat):
  lt (pa' (kas_rev p a n) i) (pa' (kas_rev p a n) j)=lt (pa' p i) (pa' p j):=by
 have g:∀ k,pa' (kas_rev p a n) k=if a<=k/\k < n then pa' p (a+n - 1 - k) else pa' p k:=fun k=>by
  rw [gI,gI,gI];unfold kas_rev;rw [getElem?_mirror_all hn];split <;> rfl
 have sim:∀ k,∃ k',pa' (kas_rev p a n) k=pa' p k'/\lt (pa' p k) (pa' p k')=false/\lt (pa' p k') (pa' p k)=false:=fun k=>by
  rw [g]
  by_cases h:a<=k/\k < n
  ·rw [if_pos h];exact ⟨_,rfl,eq _ _ h.1 h.2 (by omega) (by omega),eq _ _ (by omega) (by omega) h.1 h.2⟩
  ·rw [if_neg h];exact ⟨k,rfl,fL as _,fL as _⟩
 obtain ⟨i',ei,i1,i2⟩:=sim i;obtain ⟨j',ej,j1,j2⟩:=sim j;rw [ei,ej];cases h1:lt (pa' p i) (pa' p j) with
 | false=>exact tr _ _ _ j1 (tr _ _ _ h1 i2)
 | true=>
  cases h2:lt (pa' p i') (pa' p j') with
  | true=>rfl
  | false=>
   have:=tr _ _ _ j2 (tr _ _ _ h2 i1);rw [h1] at this;exact this.symm
theorem Bp:∀ f (p:Array Nat) n q,n+f<=p.size->q+1<=n->NIc lt p n->(∀ i j,n - (q+1)<=i->i < n->n - (q+1)<=j->j < n->lt (pa' p i) (pa' p j)=false)->Lu lt p n f (evT lt (kas_desc f p n q))
 | 0,p,n,q,_,hq,hN,hE=>⟨kx _,ai _,ai _,hq,hN,hE⟩
 | f+1,p,n,q,hs,hq,hN,hE=>by
  have e:evT lt (kas_desc (f+1) p n q)=evT lt (if lt (p.getD n 0) (p.getD (n - 1) 0)=true then (if q > 0 then kas_desc f (kas_rev p (n - (q+1)) n) (n+1) 0 else kas_desc f p (n+1) 0)
    else .ask (p.getD (n - 1) 0) (p.getD n 0) fun d=>if d=true then .ret (p,n,q) else kas_desc f p (n+1) (q+1)):=rfl
  by_cases c:lt (p.getD n 0) (p.getD (n - 1) 0)=true
  ·have down:∀ p':Array Nat,p'.Perm p->(∀ i j,lt (pa' p' i) (pa' p' j)=lt (pa' p i) (pa' p j))->evT lt (kas_desc (f+1) p n q)=evT lt (kas_desc f p' (n+1) 0)->Lu lt p n (f+1) (evT lt (kas_desc (f+1) p n q)):=fun p' hp hl hev=>by
    have hN':NIc lt p' (n+1):=fun i j hij hj=>by
     rw [hl];rcases f6 (Nat.le_of_lt_succ hj) with hj | rfl
     ·exact hN i j hij hj
     ·rcases f6 hij with hi | rfl
      ·exact tr _ _ _ (as _ _ c) (hN i (j - 1) (by omega) (by omega))
      ·exact fL as _
    have hE':∀ i j,n+1 - (0+1)<=i->i < n+1->n+1 - (0+1)<=j->j < n+1->lt (pa' p' i) (pa' p' j)=false:=fun i j h1 h2 h3 h4=>by
     have:i=j:=by omega
     subst this;exact fL as _
    have ih:=Bp f p' (n+1) 0 (by rw [hp.size_eq]; omega) (by omega) hN' hE';rw [<- hev] at ih;obtain ⟨a1,a2,a3,a4,a5,a6⟩:=ih;exact ⟨a1.trans hp,by omega,by omega,a4,a5,a6⟩
   rw [if_pos c] at e
   by_cases hq0:q > 0
   ·rw [if_pos hq0] at e;exact down _ (kz _ _ _ _) (rev_eq tr as (by omega) hE) e
   ·rw [if_neg hq0] at e;exact down p (kx _) (fun _ _=>rfl) e
  ·rw [if_neg c] at e;have c':lt (p.getD n 0) (p.getD (n - 1) 0)=false:=by simpa using c
   have e2:evT lt (kas_desc (f+1) p n q)=evT lt (if lt (p.getD (n - 1) 0) (p.getD n 0)=true then KasT.ret (p,n,q) else kas_desc f p (n+1) (q+1)):=e
   by_cases d:lt (p.getD (n - 1) 0) (p.getD n 0)=true
   ·rw [if_pos d] at e2;rw [e2];exact ⟨kx _,ai _,Nat.le_add_right _ _,hq,hN,hE⟩
   ·rw [if_neg d] at e2;have d':lt (p.getD (n - 1) 0) (p.getD n 0)=false:=by simpa using d
    have hN':NIc lt p (n+1):=fun i j hij hj=>by
     rcases f6 (Nat.le_of_lt_succ hj) with hj | rfl
     ·exact hN i j hij hj
     ·rcases f6 hij with hi | rfl
      ·exact tr _ _ _ d' (hN i (j - 1) (by omega) (by omega))
      ·exact fL as _
    have hE':∀ i j,n+1 - (q+1+1)<=i->i < n+1->n+1 - (q+1+1)<=j->j < n+1->lt (pa' p i) (pa' p j)=false:=fun i j h1 h2 h3 h4=>by
     by_cases hi:i=n
     ·by_cases hj:j=n
      ·rw [hi,hj]; exact fL as _
      ·rw [hi];exact tr _ _ _ (hE (n - 1) j (by omega) (by omega) (by omega) (by omega)) c'
     ·by_cases hj:j=n
      ·rw [hj];exact tr _ _ _ d' (hE i (n - 1) (by omega) (by omega) (by omega) (by omega))
      ·exact hE i j (by omega) (by omega) (by omega) (by omega)
    have ih:=Bp f p (n+1) (q+1) (by omega) (by omega) hN' hE';rw [<- e2] at ih;obtain ⟨a1,a2,a3,a4,a5,a6⟩:=ih;exact ⟨a1,by omega,by omega,a4,a5,a6⟩
theorem Dh {n nrem:Nat} {p:Array Nat} (h1:1<=n) (hn:n<=nrem) (hz:nrem<=p.size) (hN:NIc lt p n):
  n<=(evT lt (kas_tail3 n nrem p)).1/\(evT lt (kas_tail3 n nrem p)).1<=nrem/\(evT lt (kas_tail3 n nrem p)).2.Perm p/\STo lt (evT lt (kas_tail3 n nrem p)).2 (evT lt (kas_tail3 n nrem p)).1:=by
 have e:evT lt (kas_tail3 n nrem p)=(evT lt (kas_asc (kas_rev p 0 n) (nrem - n) n),kas_rev p 0 n):=by
  unfold kas_tail3;rw [iR]; rfl
 have g:∀ k,k < n->pa' (kas_rev p 0 n) k=pa' p (n - 1 - k):=fun k hk=>by
  rw [gI,gI];unfold kas_rev;rw [getElem?_mirror_all (by omega),if_pos (by omega)]
  congr 2
  omega
 have hS:STo lt (kas_rev p 0 n) n:=fun i j hij hj=>by
  rw [g i (by omega),g j hj];exact hN _ _ (by omega) (by omega)
 obtain ⟨a,b,c⟩:=FA tr as (kas_rev p 0 n) (nrem - n) n h1 hS;rw [e];exact ⟨a,by show evT lt (kas_asc (kas_rev p 0 n) (nrem - n) n)<=nrem; omega,kz _ _ _ _,c⟩
theorem tS {n nrem:Nat} {p:Array Nat} (h1:1<=n) (hn:n+1<=nrem) (hz:nrem<=p.size) (hN:NIc lt p n) (hd:lt (pa' p n) (pa' p (n - 1))=true):
  1<=(evT lt (kas_descPart n nrem p)).1/\(evT lt (kas_descPart n nrem p)).1<=nrem/\(evT lt (kas_descPart n nrem p)).2.Perm p/\STo lt (evT lt (kas_descPart n nrem p)).2 (evT lt (kas_descPart n nrem p)).1:=by
 have hN':NIc lt p (n+1):=fun i j hij hj=>by
  rcases f6 (Nat.le_of_lt_succ hj) with hj | rfl
  ·exact hN i j hij hj
  ·rcases f6 hij with hi | rfl
   ·exact tr _ _ _ (as _ _ hd) (hN i (j - 1) (by omega) (by omega))
   ·exact fL as _
 have hE':∀ i j,n+1 - (0+1)<=i->i < n+1->n+1 - (0+1)<=j->j < n+1->lt (pa' p i) (pa' p j)=false:=fun i j h1 h2 h3 h4=>by
  have:i=j:=by omega
  subst this;exact fL as _
 have D:=Bp tr as (nrem - (n+1)) p (n+1) 0 (by omega) (by omega) hN' hE';have e:evT lt (kas_descPart n nrem p)=evT lt (if (evT lt (kas_desc (nrem - (n+1)) p (n+1) 0)).2.2 > 0 then kas_tail3 (evT lt (kas_desc (nrem - (n+1)) p (n+1) 0)).2.1 nrem (kas_rev (evT lt (kas_desc (nrem - (n+1)) p (n+1) 0)).1 ((evT lt (kas_desc (nrem - (n+1)) p (n+1) 0)).2.1 - ((evT lt (kas_desc (nrem - (n+1)) p (n+1) 0)).2.2+1)) (evT lt (kas_desc (nrem - (n+1)) p (n+1) 0)).2.1) else kas_tail3 (evT lt (kas_desc (nrem - (n+1)) p (n+1) 0)).2.1 nrem (evT lt (kas_desc (nrem - (n+1)) p (n+1) 0)).1):=by
  unfold kas_descPart;rw [iR]
 generalize evT lt (kas_desc (nrem - (n+1)) p (n+1) 0)=r at D e;obtain ⟨a1,a2,a3,a4,a5,a6⟩:=D;have sz:r.1.size=p.size:=a1.size_eq;rw [e]
 by_cases hq:r.2.2 > 0
 ·rw [if_pos hq];have hl:=rev_eq tr as (p:=r.1) (a:=r.2.1 - (r.2.2+1)) (n:=r.2.1) (by omega) a6;obtain ⟨b1,b2,b3,b4⟩:=Dh tr as (n:=r.2.1) (nrem:=nrem) (p:=kas_rev r.1 (r.2.1 - (r.2.2+1)) r.2.1) (by omega) (by omega) (by unfold kas_rev; rw [mirror_size]; omega) (fun i j hij hj=>by rw [hl]; exact a5 i j hij hj);exact ⟨by omega,b2,(b3.trans (kz _ _ _ _)).trans a1,b4⟩
 ·rw [if_neg hq];obtain ⟨b1,b2,b3,b4⟩:=Dh tr as (n:=r.2.1) (nrem:=nrem) (p:=r.1) (by omega) (by omega) (by omega) a5;exact ⟨by omega,b2,b3.trans a1,b4⟩
theorem vT (p:Array Nat):∀ f n,1<=n->evT lt (kas_asc p f n) < n+f->lt (pa' p (evT lt (kas_asc p f n))) (pa' p (evT lt (kas_asc p f n) - 1))=true
 | 0,n,_,h=>absurd h (fj _)
 | f+1,n,h1,h=>by
  have e:evT lt (kas_asc p (f+1) n)=evT lt (if lt (p.getD n 0) (p.getD (n - 1) 0)=true then KasT.ret n else kas_asc p f (n+1)):=rfl;rw [e] at h ⊢
  by_cases c:lt (p.getD n 0) (p.getD (n - 1) 0)=true
  ·rw [if_pos c];exact c
  ·rw [if_neg c] at h ⊢;exact vT p f (n+1) (by omega) (by omega)
theorem Lw {nrem:Nat} {p:Array Nat} (h1:1<=nrem) (hz:nrem<=p.size):
  1<=(evT lt (kas_count nrem p)).1/\(evT lt (kas_count nrem p)).1<=nrem/\(evT lt (kas_count nrem p)).2.Perm p/\STo lt (evT lt (kas_count nrem p)).2 (evT lt (kas_count nrem p)).1:=by
 have h0:STo lt p 1:=fun i j hij hj=>by
  have:i=j:=by omega
  subst this;exact fL as _
 obtain ⟨a,b,c⟩:=FA tr as p (nrem - 1) 1 (ai _) h0;have stop:=vT tr as p (nrem - 1) 1 (ai _);have e:evT lt (kas_count nrem p)=evT lt (if (evT lt (kas_asc p (nrem - 1) 1) == nrem)=true then .ret (evT lt (kas_asc p (nrem - 1) 1),p) else if evT lt (kas_asc p (nrem - 1) 1) > 1 then .ask (p.getD 0 0) (p.getD (evT lt (kas_asc p (nrem - 1) 1) - 1) 0) fun c=>if c=true then .ret (evT lt (kas_asc p (nrem - 1) 1),p) else kas_descPart (evT lt (kas_asc p (nrem - 1) 1)) nrem (kas_rev p 0 (evT lt (kas_asc p (nrem - 1) 1))) else kas_descPart (evT lt (kas_asc p (nrem - 1) 1)) nrem p):=by
  unfold kas_count;rw [iR]
 generalize evT lt (kas_asc p (nrem - 1) 1)=n at a b c e stop;rw [e]
 by_cases hn:(n == nrem)=true
 ·rw [if_pos hn];exact ⟨a,by show n<=nrem; omega,kx _,c⟩
 ·rw [if_neg hn];have hn':n≠nrem:=by simpa using hn
  have st:=stop (by omega)
  by_cases h2:n > 1
  ·rw [if_pos h2];have e2:∀ k:Bool->KasT (Nat×Array Nat),evT lt (.ask (p.getD 0 0) (p.getD (n - 1) 0) k)=evT lt (k (lt (p.getD 0 0) (p.getD (n - 1) 0))):=fun _=>rfl;rw [e2]
   by_cases h3:lt (p.getD 0 0) (p.getD (n - 1) 0)=true
   ·rw [if_pos h3];exact ⟨a,by show n<=nrem; omega,kx _,c⟩
   ·rw [if_neg h3];have h3':lt (pa' p 0) (pa' p (n - 1))=false:=by simpa using h3
    have eq:∀ i j,0<=i->i < n->0<=j->j < n->lt (pa' p i) (pa' p j)=false:=fun i j _ hi _ hj=>by
     exact tr _ _ _ (c j (n - 1) (by omega) (by omega)) (tr _ _ _ h3' (c 0 i (by omega) hi))
    have hl:=rev_eq tr as (p:=p) (a:=0) (n:=n) (by omega) eq;have g:pa' (kas_rev p 0 n) n=pa' p n:=by
     rw [gI,gI];unfold kas_rev;rw [getElem?_mirror_all (by omega),if_neg (by omega)]
    obtain ⟨b1,b2,b3,b4⟩:=tS tr as (n:=n) (nrem:=nrem) (p:=kas_rev p 0 n) a (by omega) (by unfold kas_rev; rw [mirror_size]; omega) (fun i j hij hj=>by rw [hl]; exact eq i j (by omega) (by omega) (by omega) hj) (by rw [hl]; exact st);exact ⟨b1,b2,b3.trans (kz _ _ _ _),b4⟩
  ·rw [if_neg h2];have hn1:n=1:=by omega
   subst hn1;exact tS tr as (n:=1) (nrem:=nrem) (p:=p) (ai _) (by omega) hz (fun i j hij hj=>by
    have:i=j:=by omega
    subst this;exact fL as _) st
theorem vU (p:Array Nat) (k:Nat) (hS:STo lt p k):∀ f l r,r - l<=f->l<=r->r<=k->(∀ i,i < l->lt (pa' p k) (pa' p i)=false)->(∀ i,r<=i->i < k->lt (pa' p k) (pa' p i)=true)->
  l<=evT lt (kas_place p k f l r)/\evT lt (kas_place p k f l r)<=k/\(∀ i,i < evT lt (kas_place p k f l r)->lt (pa' p k) (pa' p i)=false)/\(∀ i,evT lt (kas_place p k f l r)<=i->i < k->lt (pa' p k) (pa' p i)=true)
 | 0,l,r,hf,hl,hr,h1,h2=>by
  have:l=r:=by omega
  subst this;exact ⟨ai _,hr,h1,h2⟩
 | f+1,l,r,hf,hl,hr,h1,h2=>by
  have e:evT lt (kas_place p k (f+1) l r)=evT lt (if l >= r then .ret l else .ask (p.getD k 0) (p.getD ((l+r) / 2) 0) fun c=>if c=true then kas_place p k f l ((l+r) / 2) else kas_place p k f ((l+r) / 2+1) r):=rfl;rw [e]
  by_cases hge:l >= r
  ·rw [if_pos hge];have:l=r:=by omega
   subst this;exact ⟨ai _,hr,h1,h2⟩
  ·rw [if_neg hge];have e2:∀ q:Bool->KasT Nat,evT lt (.ask (p.getD k 0) (p.getD ((l+r) / 2) 0) q)=evT lt (q (lt (p.getD k 0) (p.getD ((l+r) / 2) 0))):=fun _=>rfl;rw [e2]
   by_cases c:lt (p.getD k 0) (p.getD ((l+r) / 2) 0)=true
   ·rw [if_pos c];refine vU p k hS f l ((l+r) / 2) (by omega) (by omega) (by omega) h1 fun i hi hk=>?_;cases q:lt (pa' p k) (pa' p i) with
    | true=>rfl
    | false=>
     have:=tr _ _ _ (hS ((l+r) / 2) i hi hk) q;rw [show lt (pa' p k) (pa' p ((l+r) / 2))=true from c] at this
     exact this.symm
   ·rw [if_neg c];have c':lt (pa' p k) (pa' p ((l+r) / 2))=false:=by simpa using c
    obtain ⟨b1,b2,b3,b4⟩:=vU p k hS f ((l+r) / 2+1) r (by omega) (by omega) hr (fun i hi=>by
     cases q:lt (pa' p k) (pa' p i) with
     | false=>rfl
     | true=>
      exfalso;have s1:=hS i ((l+r) / 2) (by omega) (by omega);have s2:=as _ _ q;have:lt (pa' p k) (pa' p i)=false:=by
       -- p[mid]<=p[k] (c'),p[i]<=p[mid]
       exact tr _ _ _ s1 c'
      rw [q] at this;cases this) h2
    exact ⟨by omega,b2,b3,b4⟩
theorem Lx:∀ f (p:Array Nat) k,1<=k->k+f<=p.size->STo lt p k->(evT lt (kas_bin f p k)).Perm p/\STo lt (evT lt (kas_bin f p k)) (k+f)
 | 0,p,k,_,_,h=>⟨kx _,h⟩
 | f+1,p,k,h1,hz,h=>by
  have e:evT lt (kas_bin (f+1) p k)=evT lt (kas_bin f (bubble p k (k - evT lt (kas_place p k k 0 k))) (k+1)):=by
   show evT lt ((kas_place p k k 0 k).bind fun l=>kas_bin f (bubble p k (k - l)) (k+1))=_
   rw [iR]
  obtain ⟨b1,b2,b3,b4⟩:=vU tr as p k h k 0 k (by omega) (b9 _) (ai _) (fun i hi=>absurd hi (Nat.not_lt_zero _)) (fun i hi hk=>absurd hk (by omega));generalize evT lt (kas_place p k k 0 k)=l at e b1 b2 b3 b4;have g:∀ i,pa' (bubble p k (k - l)) i=if i=l then pa' p k else if l < i/\i<=k then pa' p (i - 1) else pa' p i:=fun i=>by
   rw [gI,gI,gI,gI,getElem?_bubble (by omega) _ (by omega)];have el:k - (k - l)=l:=by omega
   rw [el];split
   ·rfl
   ·split <;> rfl
  have hS:STo lt (bubble p k (k - l)) (k+1):=fun i j hij hj=>by
   rw [g i,g j]
   by_cases hj1:j=l
   ·by_cases hi1:i=l
    ·rw [if_pos hj1,if_pos hi1]; exact fL as _
    ·rw [if_pos hj1,if_neg hi1,if_neg (by omega)];exact b3 i (by omega)
   ·rw [if_neg hj1]
    by_cases hi1:i=l
    ·rw [if_pos hi1,if_pos (by omega)];exact as _ _ (b4 (j - 1) (by omega) (by omega))
    ·rw [if_neg hi1]
     by_cases hj2:l < j/\j<=k
     ·rw [if_pos hj2]
      by_cases hi2:l < i/\i<=k
      ·rw [if_pos hi2]; exact h _ _ (by omega) (by omega)
      ·rw [if_neg hi2]; exact h _ _ (by omega) (by omega)
     ·rw [if_neg hj2,if_neg (by omega)];exact h _ _ hij (by omega)
  have ih:=Lx f (bubble p k (k - l)) (k+1) (by omega) (by rw [bubble_size]; omega) hS;rw [e];exact ⟨ih.1.trans (bubble_perm _ _ _),by rw [show k+(f+1)=k+1+f by omega]; exact ih.2⟩
theorem Pk {n:Nat} (h1:1<=n):(evT lt (kas_sort n)).toList.Perm (ba n)/\(evT lt (kas_sort n)).toList.Pairwise (fun i j=>lt j i=false):=by
 have e:evT lt (kas_sort n)=evT lt (if (evT lt (kas_count n (j4 (ba n)))).1 < n then kas_bin (n - max (evT lt (kas_count n (j4 (ba n)))).1 1) (evT lt (kas_count n (j4 (ba n)))).2 (max (evT lt (kas_count n (j4 (ba n)))).1 1) else .ret (evT lt (kas_count n (j4 (ba n)))).2):=by
  unfold kas_sort;rw [iR]
 obtain ⟨a1,a2,a3,a4⟩:=Lw tr as (nrem:=n) (p:=j4 (ba n)) h1 (by simp);generalize evT lt (kas_count n (j4 (ba n)))=r at e a1 a2 a3 a4;have fin:∀ p:Array Nat,p.Perm (j4 (ba n))->STo lt p n->p.toList.Perm (ba n)/\p.toList.Pairwise (fun i j=>lt j i=false):=fun p hp hs=>by
  have hsz:p.size=n:=by rw [hp.size_eq]; simp
  refine ⟨by simpa using Array.perm_iff_toList_perm.mp hp,?_⟩
  rw [ic];intro i j hi hj hij;have hi':i < p.size:=by simpa using hi
  have hj':j < p.size:=by simpa using hj
  have:=hs i j (iy hij) (by omega);simpa [pa',Array.getD,hi',hj'] using this
 rw [e]
 by_cases hlt:r.1 < n
 ·rw [if_pos hlt];have hm:max r.1 1=r.1:=by omega
  rw [hm];obtain ⟨b1,b2⟩:=Lx tr as (n - r.1) r.2 r.1 a1 (by rw [a3.size_eq]; simp; omega) a4;refine fin _ (b1.trans a3) ?_;rw [show r.1+(n - r.1)=n by omega] at b2;exact b2
 ·rw [if_neg hlt];have:r.1=n:=by omega
  exact fin _ a3 (this ▸ a4)
end
end L2
namespace L2
open PySem PySem.Spec PyProof.Rows PySem.SeqAt PySem.W
def InP {α:Type} (n:Nat) (P:α->Prop):KasT α->Prop
 | .ret a=>P a
 | .ask i j k=>i < n/\j < n/\∀ b,InP n P (k b)
theorem InP.bind {α β:Type} {n:Nat} {P:α->Prop} {Q:β->Prop} {f:α->KasT β}:∀ {t:KasT α},InP n P t->(∀ a,P a->InP n Q (f a))->InP n Q (t.bind f)
 | .ret a,h,hf=>hf a h
 | .ask i j k,⟨h1,h2,h3⟩,hf=>⟨h1,h2,fun b=>InP.bind (h3 b) hf⟩
theorem InP.mono {α:Type} {n:Nat} {P Q:α->Prop} (hq:∀ a,P a->Q a):∀ {t:KasT α},InP n P t->InP n Q t
 | .ret a,h=>hq a h
 | .ask i j k,⟨h1,h2,h3⟩=>⟨h1,h2,fun b=>InP.mono hq (h3 b)⟩
def AllLt (n:Nat) (p:Array Nat):Prop:=∀ k,p.getD k 0 < n
theorem AllLt.of {n:Nat} {p q:Array Nat} (h:AllLt n p) (g:∀ k:Nat,q[k]?=none\/∃ k':Nat,q[k]?=p[k']?) (hn:0 < n):AllLt n q:=fun k=>by
 have e:∀ (r:Array Nat) k,r.getD k 0=(r[k]?).getD 0:=fun r k=>by simp [Array.getD_eq_getD_getElem?]
 rw [e];rcases g k with h1 | ⟨k',h1⟩
 ·rw [h1]; exact hn
 ·rw [h1,<- e]; exact h k'
theorem AllLt.perm {n:Nat} {p q:Array Nat} (h:AllLt n p) (hp:q.Perm p) (hn:0 < n):AllLt n q:=by
 refine AllLt.of h (fun k=>?_) hn;cases e:q[k]? with
 | none=>exact .inl rfl
 | some v=>
  right;have hm:v∈q.toList:=by
   have:q.toList[k]?=some v:=by simpa using e
   exact cg this
  have hm':v∈p.toList:=(Array.perm_iff_toList_perm.mp hp).mem_iff.mp hm;obtain ⟨k',hk⟩:=dw.mp hm';exact ⟨k',by rw [<- hk]; simp⟩
section
variable {n:Nat} (hn:0 < n)
include hn
theorem Bq {p:Array Nat} (h:AllLt n p):∀ f m,InP n (fun _=>True) (kas_asc p f m)
 | 0,m=>trivial
 | f+1,m=>⟨h _,h _,fun b=>by
  cases b with
  | true=>exact trivial
  | false=>exact Bq h f (m+1)⟩
theorem pN:∀ f (p:Array Nat) m q,AllLt n p->InP n (fun r=>AllLt n r.1) (kas_desc f p m q)
 | 0,p,m,q,h=>h
 | f+1,p,m,q,h=>⟨h _,h _,fun b=>by
  cases b with
  | true=>
   show InP n _ (if q > 0 then kas_desc f (kas_rev p (m - (q+1)) m) (m+1) 0 else kas_desc f p (m+1) 0)
   by_cases hq:q > 0
   ·rw [if_pos hq]; exact pN f _ _ _ (h.perm (kz _ _ _ _) hn)
   ·rw [if_neg hq]; exact pN f _ _ _ h
  | false=>exact ⟨h _,h _,fun d=>by
    cases d with
    | true=>exact h
    | false=>exact pN f _ _ _ h⟩⟩
theorem Af {p:Array Nat} (h:AllLt n p) (m r:Nat):InP n (fun x=>AllLt n x.2) (kas_tail3 m r p):=by
 unfold kas_tail3;exact InP.bind (Bq hn (h.perm (kz _ _ _ _) hn) _ _) fun a _=>h.perm (kz _ _ _ _) hn
theorem pO {p:Array Nat} (h:AllLt n p) (m r:Nat):InP n (fun x=>AllLt n x.2) (kas_descPart m r p):=by
 unfold kas_descPart;refine InP.bind (pN hn _ _ _ _ h) fun a ha=>?_
 by_cases hq:a.2.2 > 0
 ·rw [if_pos hq]; exact Af hn (ha.perm (kz _ _ _ _) hn) _ _
 ·rw [if_neg hq]; exact Af hn ha _ _
theorem Ja {p:Array Nat} (h:AllLt n p) (r:Nat):InP n (fun x=>AllLt n x.2) (kas_count r p):=by
 unfold kas_count;refine InP.bind (Bq hn h _ _) fun a _=>?_
 by_cases h1:(a == r)=true
 ·rw [if_pos h1]; exact h
 ·rw [if_neg h1]
  by_cases h2:a > 1
  ·rw [if_pos h2];exact ⟨h _,h _,fun b=>by
    cases b with
    | true=>exact h
    | false=>exact pO hn (h.perm (kz _ _ _ _) hn) _ _⟩
  ·rw [if_neg h2]; exact pO hn h _ _
theorem rS {p:Array Nat} (h:AllLt n p) (k:Nat):∀ f l r,InP n (fun _=>True) (kas_place p k f l r)
 | 0,l,r=>trivial
 | f+1,l,r=>by
  show InP n _ (if l >= r then .ret l else .ask (p.getD k 0) (p.getD ((l+r) / 2) 0) fun c=>if c=true then kas_place p k f l ((l+r) / 2) else kas_place p k f ((l+r) / 2+1) r)
  by_cases hl:l >= r
  ·rw [if_pos hl]; exact trivial
  ·rw [if_neg hl];exact ⟨h _,h _,fun b=>by
    cases b with
    | true=>exact rS h k f _ _
    | false=>exact rS h k f _ _⟩
theorem HG:∀ f (p:Array Nat) k,AllLt n p->InP n (fun _=>True) (kas_bin f p k)
 | 0,p,k,_=>trivial
 | f+1,p,k,h=>InP.bind (rS hn h k _ _ _) fun l _=>HG f _ _ (h.perm (bubble_perm _ _ _) hn)
theorem vV:InP n (fun _=>True) (kas_sort n):=by
 have h0:AllLt n (j4 (ba n)):=fun k=>by
  by_cases hk:k < n
  ·simp [Array.getD,hk]
  ·simp [Array.getD,hk,hn]
 unfold kas_sort;refine InP.bind (Ja hn h0 n) fun r hr=>?_
 by_cases h:r.1 < n
 ·rw [if_pos h]; exact HG hn _ _ _ hr
 ·rw [if_neg h]; exact trivial
end
theorem vW {α:Type} {n:Nat} {cmp:Nat->Nat->(Bool->Shared->Prop)->Shared->Prop} {lt:Nat->Nat->Bool} {s:Shared} (hc:∀ i j C,i < n->j < n->C (lt i j) s->cmp i j C s) {Q:α->Shared->Prop} {P:α->Prop}:
  ∀ {t:KasT α},InP n P t->Q (evT lt t) s->t.kasWp cmp Q s
 | .ret _,_,h=>h
 | .ask i j k,⟨h1,h2,h3⟩,h=>hc i j _ h1 h2 (vW hc (h3 _) h)
def ltX (n:Nat) (lt:Nat->Nat->Bool) (i j:Nat):Bool:=if i < n then (if j < n then lt i j else true) else false
theorem To {n:Nat} {lt:Nat->Nat->Bool} (tr:∀ i j k,i < n->j < n->k < n->lt j i=false->lt k j=false->lt k i=false) (i j k:Nat) (h1:ltX n lt j i=false) (h2:ltX n lt k j=false):ltX n lt k i=false:=by
 unfold ltX at*
 by_cases hi:i < n <;> by_cases hj:j < n <;> by_cases hk:k < n <;> simp only [hi,hj,hk,if_true,if_false] at h1 h2 ⊢ <;> first | exact tr i j k hi hj hk h1 h2 | exact absurd h2 (by decide) | exact absurd h1 (by decide) | rfl
theorem Tp {n:Nat} {lt:Nat->Nat->Bool} (as:∀ i j,i < n->j < n->lt i j=true->lt j i=false) (i j:Nat) (h:ltX n lt i j=true):ltX n lt j i=false:=by
 unfold ltX at*
 by_cases hi:i < n <;> by_cases hj:j < n <;> simp only [hi,hj,if_true,if_false] at h ⊢ <;> first | exact as i j hi hj h | exact absurd h (by decide) | rfl
theorem Ag {α:Type} {n:Nat} {lt lt':Nat->Nat->Bool} (h:∀ i j,i < n->j < n->lt i j=lt' i j) {P:α->Prop}:∀ {t:KasT α},InP n P t->evT lt t=evT lt' t
 | .ret _,_=>rfl
 | .ask i j k,⟨h1,h2,h3⟩=>by
  show evT lt (k (lt i j))=evT lt' (k (lt' i j))
  rw [h i j h1 h2];exact Ag h (h3 _)
theorem Di {n:Nat} {lt:Nat->Nat->Bool} (tr:∀ i j k,i < n->j < n->k < n->lt j i=false->lt k j=false->lt k i=false) (as:∀ i j,i < n->j < n->lt i j=true->lt j i=false) (h1:1<=n):
  (evT lt (kas_sort n)).toList.Perm (ba n)/\(evT lt (kas_sort n)).toList.Pairwise (fun i j=>lt j i=false):=by
 have e:evT lt (kas_sort n)=evT (ltX n lt) (kas_sort n):=Ag (fun i j hi hj=>by unfold ltX; rw [if_pos hi,if_pos hj]) (vV (by omega));obtain ⟨a,b⟩:=Pk (lt:=ltX n lt) (To tr) (Tp as) h1;rw [e];refine ⟨a,b.imp_of_mem fun {i j} hi hj h=>?_⟩;have hi':i < n:=by simpa using a.mem_iff.mp hi
 have hj':j < n:=by simpa using a.mem_iff.mp hj
 unfold ltX at h;rw [if_pos hj',if_pos hi'] at h;exact h
section
variable {prog:Program} {w:World} {A:Around} {E:Value->Shared->Prop} {s:Shared}
theorem uM {a:Addr} {vs:List Value} {n:Nat} {κ:SortKind} {P:PySem.Fin->Shared->Prop} (lt:Nat->Nat->Bool) (tr:∀ i j k,i < vs.length->j < vs.length->k < vs.length->lt j i=false->lt k j=false->lt k i=false) (as:∀ i j,i < vs.length->j < vs.length->lt i j=true->lt j i=false)
  (ho:s.heap.get? a=some (seqObj "list" vs.toArray n)) (h64:vs.length < 64)
  (hk:∀ s':Shared,(∀ b o,b≠a->s.heap.get? b=some o->s'.heap.get? b=some o)->∀ Q:SortKind->Shared->Prop,Q κ s'->wpAny (model prog w) A (keyKind' vs.toArray) Q E s')
  (hlt:∀ s':Shared,(∀ b o,b≠a->s.heap.get? b=some o->s'.heap.get? b=some o)->∀ i j,i < vs.length->j < vs.length->∀ Q:Bool->Shared->Prop,Q (lt i j) s'->wpAny (model prog w) A (keyLt' κ (vs.getD i cx) (vs.getD j cx)) Q (fun _ _=>False) s')
  (h:∀ p:List Nat,p.Perm (ba vs.length)->p.Pairwise (fun i j=>lt j i=false)->P (.done (.ret .none)) { s with heap:=sortedHeap s.heap a vs (p.map fun i=>vs.getD i cx).toArray }):
  wpAny (model prog w) A (Builtin.«list.sort» ⟨[.ref a],[]⟩) P E s:=by
 rw [list_sort_plain];have ha:a < s.heap.objs.size:=az ho;refine aa (listItems_at ho rfl ?_);refine aa (jg ho rfl ?_ (by rw [ar,c6]; omega) (b9 _));obtain ⟨e1,ho1⟩:∃ e1,(s.heap.update a (cy fun _=>#[])).get? a=some (seqObj "list" #[] e1):=⟨_,i6 ho (fun _=>#[])⟩;refine aa (seqEpoch_at ho1 rfl ?_);refine aa (wpAny_newTuple ?_ (by show vs.length<=_; rw [c6]; omega));refine aa (wpAny_newList ?_ (b9 _));refine dg ?_;have ho6:(((s.heap.update a (cy fun _=>#[])).push (seqObj "tuple" vs.toArray 0)).push (seqObj "list" #[] 0)).get? a=some (seqObj "list" #[] e1):=by
  rw [ju _ _ _ (by rw [size_push',l8]; exact a9 (Nat.lt_succ_of_lt ha)),ju _ _ _ (by rw [l8]; exact a9 ha)];exact ho1
 have kept:∀ b o,b≠a->s.heap.get? b=some o->(((s.heap.update a (cy fun _=>#[])).push (seqObj "tuple" vs.toArray 0)).push (seqObj "list" #[] 0)).get? b=some o:=fun b o hb e=>
  ah _ (ah _ ((Heap.get?_update_other s.heap (cy fun _=>#[]) (j5 hb)).trans e))
 show wpAny (model prog w) A _ P E { s with heap:=((s.heap.update a (cy fun _=>#[])).push (seqObj "tuple" vs.toArray 0)).push (seqObj "list" #[] 0) }
 dsimp only;have hsz:vs.toArray.size=vs.length:=by simp
 by_cases h2:vs.toArray.size < 2
 ·rw [if_pos h2,if_pos h2];refine aa (ag ?_);rw [StateT.run_pure];refine aa (ag ?_);dsimp only;refine aa (seqEpoch_at ho6 rfl ?_);refine aa (jg ho6 rfl ?_ (b9 _) (hsz2:=by rw [Array.size_map]; show (pairsOf vs).size<=_; rw [pairsOf_size,c6]; omega));simp only [bne_self_eq_false,dt,if_false];have e:(vs.toArray.zip vs.toArray).map (·.2)=((ba vs.length).map fun i=>vs.getD i cx).toArray:=by
   apply Array.toList_inj.mp;apply g7;intro i
   by_cases hi:i < vs.length
   ·simp [hi]
   ·simp [hi]
  have key:=h (ba vs.length) (List.Perm.refl _) (by
   rw [ic];intro i j hi hj hij;simp only [jv] at hi hj;omega)
  rw [<- e] at key;exact ag key
 ·rw [if_neg h2,if_neg h2];have h2':2<=vs.length:=by omega
  refine aa (hk _ kept _ ?_);refine aa (gx (kat_run (ks:=vs) (vs:=vs) (E:=E) (Q:=fun st' s'=>s'={ s with heap:=((s.heap.update a (cy fun _=>#[])).push (seqObj "tuple" vs.toArray 0)).push (seqObj "list" #[] 0) }/\arrOf st'=(evT lt (kas_sort vs.length)).map (kas_item (vs.toArray.zip vs.toArray))/\failedOf st'=none)
   (G:=fun p s'=>p=evT lt (kas_sort vs.length)/\s'={ s with heap:=((s.heap.update a (cy fun _=>#[])).push (seqObj "tuple" vs.toArray 0)).push (seqObj "list" #[] 0) }) rfl h2' h64 (fun p st' s' _ a2 a3 a4=>⟨a4.2,by rw [a2,a4.1],a3⟩)
   (vW (n:=vs.length) (lt:=lt) (fun i j C hi hj hC=>hlt _ kept i j hi hj C hC) (vV (by omega)) ⟨rfl,rfl⟩)) ?_ fun _ _ e=>e)
  rintro ⟨⟨⟩,st'⟩ s' ⟨rfl,har,hf⟩;dsimp only;have hout:=kat_snds (ks:=vs) (vs:=vs) rfl har;obtain ⟨c1,c2⟩:=Di tr as (by omega);refine aa (seqEpoch_at ho6 rfl ?_);refine aa (jg ho6 rfl ?_ (b9 _) (hsz2:=by
   have:(Array.map (fun x=>x.snd) (arrOf st')).size<=aw:=by
    rw [hout,ar,ae,c1.length_eq,jv,c6];omega
   first | exact this | exact jw this))
  rw [hf];simp only [bne_self_eq_false,dt,if_false];have key:=h _ c1 c2;rw [<- hout] at key;exact ag key
end
def kD:Key->D
 | .inl i=>.int i
 | .inr x=>.str x
def tD (ks:List Key):D:=.tup (ks.map kD)
theorem Pl {K:af} {H:Hp} {k:Key} {v:V} (h:Rep K H (kD k) v):v=kV k:=by
 cases k <;> exact h
theorem Pm {K:af} {H:Hp} (k:Key):Rep K H (kD k) (kV k):=by
 cases k <;> rfl
theorem Ah {K:af} {H:Hp}:∀ {ks:List Key} {vs:List V},cI K H (ks.map kD) vs->vs=ks.map kV
 | [],[],_=>rfl
 | k :: ks,v :: vs,⟨h,r⟩=>by rw [Pl h,Ah (ks:=ks) r]; rfl
 | [],_ :: _,h=>h.elim
 | _ :: _,[],h=>h.elim
theorem Ai {K:af} {H:Hp}:∀ (ks:List Key),cI K H (ks.map kD) (ks.map kV)
 | []=>trivial
 | k :: ks=>⟨Pm k,Ai ks⟩
abbrev eY (h:Heap):List Value->List (List Key)->Prop:=Paired fun v ks=>∃ a us,v=.ref a/\IsTup h a us.toArray/\aM (ks.map kV) us
theorem eY.kept {h h':Heap} (k:∀ b o,h.get? b=some o->h'.get? b=some o):∀ {vs:List Value} {kss:List (List Key)},eY h vs kss->eY h' vs kss
 | _,_,.nil=>.nil
 | _,_,.cons ⟨a,us,e,⟨o,ho,r⟩,q⟩ t=>.cons ⟨a,us,e,⟨o,k a o ho,r⟩,q⟩ (eY.kept k t)
theorem eY.get {h:Heap}:∀ {vs:List Value} {kss:List (List Key)} {i:Nat},eY h vs kss->i < vs.length->∃ a us,vs.getD i cx=.ref a/\IsTup h a us.toArray/\aM ((kss.getD i []).map kV) us
 | _,_,i,.nil,hi=>by simp at hi
 | _,_,0,.cons ⟨a,us,e,p,q⟩ t,hi=>⟨a,us,by simpa using e,p,by simpa using q⟩
 | _,_,i+1,.cons _ t,hi=>by
  obtain ⟨a,us,e,p,q⟩:=eY.get (i:=i) t (by simpa using hi)
  exact ⟨a,us,by simpa using e,p,by simpa using q⟩
theorem nZ {X:Cx} {pins:List (Addr×Obj)} {σ:St} {H:Hp} {s:Shared} (I:Inv X pins σ H s):∀ {kss:List (List Key)} {vs:List V} {us:List Value},cI X.K H (kss.map tD) vs->aM vs us->eY s.heap us kss
 | [],[],_,_,.nil=>.nil
 | ks :: kss,v :: vs,_,⟨⟨a,ws,e,q,r⟩,rs⟩,.cons rv rvs=>by
  subst e;cases rv
  obtain ⟨its,r2,p,_⟩:=I.tuple q;rw [Ah r] at r2;exact .cons ⟨a,its,rfl,p,r2⟩ (nZ I rs rvs)
 | [],_ :: _,_,h,_=>h.elim
 | _ :: _,[],_,h,_=>h.elim
section
variable {prog:Program} {w:World} {A:Around} {E:Value->Shared->Prop} {s:Shared}
theorem kN {b:Bool} {Q:Bool->Shared->Prop}:∀ (ks ls:List Key) (us ws:List Value) (i:Nat),aM (ks.map kV) us->aM (ls.map kV) ws->shape ks=shape ls->Q (bM ks ls) s->KatLex prog w A b false Q (us.zip ws) i s
 | [],[],_,_,i,.nil,.nil,_,h=>h
 | [],_ :: _,_,_,_,_,_,e,_=>by cases e
 | _ :: _,[],_,_,_,_,_,e,_=>by cases e
 | x :: ks,y :: ls,_,_,i,.cons (b:=u) r1 t1,.cons (b:=v) r2 t2,e,h=>by
  have s1:cW x=cW y:=by simpa using congrArg List.head? e
  have s2:shape ks=shape ls:=by simpa using congrArg List.tail e
  rw [List.zip_cons_cons];unfold bM at h;cases x with
  | inl a=>
   cases y with
   | inr c=>cases s1
   | inl c=>
    obtain ⟨t,rfl⟩:=r1;obtain ⟨t',rfl⟩:=r2;refine kat_cons (EqAt.int_int a t c t' prog w _ _ ?_)
    by_cases ac:a=c
    ·subst ac;rw [if_pos rfl] at h;rw [beq_self_eq_true];exact kat_yes (kN ks ls _ _ (i+1) t1 t2 s2 h)
    ·rw [if_neg (fun z=>ac (Sum.inl.inj z))] at h;rw [beq_eq_false_iff_ne.mpr ac];refine kat_no ?_;cases hb:(b && i == 0) with
     | true=>exact oneLt_int h
     | false=>exact kat_one _ _ (lt_int (show PySem.W.BoolBack Q (.bool (decide (a < c))) s from h))
  | inr a=>
   cases y with
   | inl c=>cases s1
   | inr c=>
    obtain ⟨t,rfl⟩:=r1;obtain ⟨t',rfl⟩:=r2;refine kat_cons (EqAt.str_str a t c t' prog w _ _ ?_)
    by_cases ac:a=c
    ·subst ac;rw [if_pos rfl] at h;rw [beq_self_eq_true];exact kat_yes (kN ks ls _ _ (i+1) t1 t2 s2 h)
    ·rw [if_neg (fun z=>ac (Sum.inr.inj z))] at h;rw [beq_eq_false_iff_ne.mpr ac];refine kat_no ?_;cases hb:(b && i == 0) with
     | true=>exact oneLt_str h
     | false=>exact kat_one _ _ (lt_str (show PySem.W.BoolBack Q (.bool (decide (a.cps.toList < c.cps.toList))) s from h))
theorem vX {b:Bool} {x y:Addr} {us ws:List Value} {ks ls:List Key} {Q:Bool->Shared->Prop} (hx:IsTup s.heap x us.toArray) (hy:IsTup s.heap y ws.toArray) (r1:aM (ks.map kV) us) (r2:aM (ls.map kV) ws) (e:shape ks=shape ls) (h:Q (bM ks ls) s):
  wpAny (model prog w) A (keyLt' (tuples' b) (.ref x) (.ref y)) Q E s:=by
 obtain ⟨ox,hox,_,n,dx⟩:=hx;obtain ⟨oy,hoy,_,m,dy⟩:=hy;refine kat_lt hox dx hoy dy ?_;have l1:=r1.length;have l2:=r2.length;have l3:ks.length=ls.length:=by simpa using congrArg List.length e
 rw [ae] at l1 l2;have hf:decide (us.toArray.size < ws.toArray.size)=false:=decide_eq_false (by simp; omega);rw [hf];exact kN ks ls us ws 0 r1 r2 e h
theorem vY {h:Heap} {b:Bool} {sh:List Bool}:∀ {vs:List Value} {kss:List (List Key)},eY h vs kss->(∀ ks∈kss,shape ks=b :: sh)->∃ fs:List Value,fs.length=vs.length/\KatTups h vs fs/\∀ f∈fs,typeOf f=pure (.type (if b then "int" else "str"))
 | _,_,.nil,_=>⟨[],rfl,KatTups.nil,fun _ hf=>nomatch hf⟩
 | _,_,.cons (b:=ks) ⟨a,us,e,⟨o,ho,hc,n,hd⟩,r⟩ t,hs=>by
  obtain ⟨fs,hl,ht,hT⟩:=vY t fun x hx=>hs x (ao _ hx);have h0:=hs ks aj;subst e;cases ks with
  | nil=>cases h0
  | cons k ks=>
   cases r with
   | cons rk rks=>
    rename_i u us';have hk:cW k=b:=by simpa using congrArg List.head? h0
    refine ⟨u :: fs,by simp [hl],KatTups.cons ho hc hd (by simp) ht,fun f hf=>?_⟩;rcases bc.mp hf with rfl | hf
    ·cases k with
     | inl i=>obtain ⟨tk,rfl⟩:=rk; subst hk; rfl
     | inr x=>obtain ⟨tk,rfl⟩:=rk; subst hk; rfl
    ·exact hT f hf
theorem Aj {vs:List Value} {kss:List (List Key)} {b:Bool} {sh:List Bool} {Q:SortKind->Shared->Prop} (t:eY s.heap vs kss) (hs:∀ ks∈kss,shape ks=b :: sh) (h0:0 < vs.length) (h:Q (tuples' true) s):wpAny (model prog w) A (keyKind' vs.toArray) Q E s:=by
 obtain ⟨fs,hl,ht,hT⟩:=vY t hs;refine kat_kind (T:=.type (if b then "int" else "str")) ht (by omega) (fun v hv=>by rw [hT v hv]; exact Looks.now) (by cases b <;> rfl) ?_;have:((Value.type (if b then "int" else "str")) != Value.type "tuple")=true:=by cases b <;> rfl
 rw [this];exact h
theorem rT {a:Addr} {n:Nat} {P:PySem.Fin->Shared->Prop} (ho:s.heap.get? a=some (seqObj "list" ([]:List Value).toArray n)) (h:P (.done (.ret .none)) { s with heap:=sortedHeap s.heap a [] #[] }):wpAny (model prog w) A (Builtin.«list.sort» ⟨[.ref a],[]⟩) P E s:=by
 rw [list_sort_plain];refine aa (listItems_at ho rfl ?_);refine aa (jg ho rfl ?_ (b9 _) (b9 _));have ha:a < s.heap.objs.size:=az ho;obtain ⟨e1,ho1⟩:∃ e1,(s.heap.update a (cy fun _=>#[])).get? a=some (seqObj "list" #[] e1):=⟨_,i6 ho (fun _=>#[])⟩;refine aa (seqEpoch_at ho1 rfl ?_);refine aa (wpAny_newTuple ?_ (b9 _));refine aa (wpAny_newList ?_ (b9 _));refine dg ?_;have ho6:(((s.heap.update a (cy fun _=>#[])).push (seqObj "tuple" ([]:List Value).toArray 0)).push (seqObj "list" #[] 0)).get? a=some (seqObj "list" #[] e1):=by
  rw [ju _ _ _ (by rw [size_push',l8]; exact a9 (Nat.lt_succ_of_lt ha)),ju _ _ _ (by rw [l8]; exact a9 ha)];exact ho1
 show wpAny (model prog w) A _ P E { s with heap:=((s.heap.update a (cy fun _=>#[])).push (seqObj "tuple" ([]:List Value).toArray 0)).push (seqObj "list" #[] 0) }
 dsimp only;rw [if_pos (by decide),if_pos (by decide)];refine aa (ag ?_);rw [StateT.run_pure];refine aa (ag ?_);dsimp only;refine aa (seqEpoch_at ho6 rfl ?_);have e0:(Array.map (fun x=>x.snd) (arrOf (SortSt.mk' general' ((#[]:Array Value).zip (#[]:Array Value)) #[] 7 none)))=(#[]:Array Value):=by
  show Array.map (fun x=>x.snd) ((#[]:Array Value).zip (#[]:Array Value))=#[]
  simp
 refine aa (jg ho6 rfl ?_ (b9 _) (hsz2:=by
  have e1:(Array.map (fun x=>x.snd) (arrOf (SortSt.mk' general' ((#[]:Array Value).zip (#[]:Array Value)) #[] 7 none))).size=0:=by rw [e0]; rfl
  first | exact c4 (Nat.le_of_eq e1) (b9 _) | (show _<=_; omega)))
 simp only [bne_self_eq_false,dt,if_false];refine ag ?_
 show P (.done (.ret .none)) { s with heap:=(((s.heap.update a (cy fun x=>#[])).push (seqObj "tuple" ([]:List Value).toArray 0)).push (seqObj "list" #[] 0)).update a (cy fun x=>Array.map (fun x=>x.snd) (arrOf (SortSt.mk' general' ((#[]:Array Value).zip (#[]:Array Value)) #[] 7 none))) }
 rw [e0];exact h
theorem Jb {v:Value} {Q:Value->Shared->Prop} {κ:SortKind} (Col:List Value->Shared->Prop) (hc:wpAny (model prog w) A.in1 (collect v) Col E s)
  (h:∀ vs s1,Col vs s1->vs.length < 64/\∃ lt:Nat->Nat->Bool,(∀ i j k,i < vs.length->j < vs.length->k < vs.length->lt j i=false->lt k j=false->lt k i=false)/\(∀ i j,i < vs.length->j < vs.length->lt i j=true->lt j i=false)/\
   (∀ (A':Around) (s':Shared),(∀ b o,s1.heap.get? b=some o->s'.heap.get? b=some o)->0 < vs.length->∀ (Q:SortKind->Shared->Prop) E',Q κ s'->wpAny (model prog w) A' (keyKind' vs.toArray) Q E' s')/\
   (∀ (s':Shared),(∀ b o,s1.heap.get? b=some o->s'.heap.get? b=some o)->∀ i j,i < vs.length->j < vs.length->∀ Q:Bool->Shared->Prop,Q (lt i j) s'->wpAny (model prog w) A.in1.in1 (keyLt' κ (vs.getD i cx) (vs.getD j cx)) Q (fun _ _=>False) s')/\
   ∀ (p:List Nat) (h':Heap) (e:Nat),p.Perm (ba vs.length)->p.Pairwise (fun i j=>lt j i=false)->(∀ b o,s1.heap.get? b=some o->h'.get? b=some o)->h'.get? s1.heap.objs.size=some (seqObj "list" (p.map fun i=>vs.getD i cx).toArray e)->Q (.ref s1.heap.objs.size) { s1 with heap:=h' }):
  wpAny (model prog w) A (call (.builtin "sorted") [v]) Q E s:=by
 refine Calls.call_function_entry kind_sorted plain_sorted entry_sorted (args_sorted1 _) ?_;unfold Builtin.«sorted»;refine aa (m:=checkCount "sorted" 1 1 _) (ag ?_);refine aa (gx hc (fun vs s1 c=>?_) fun _ _ x=>x);obtain ⟨h64,lt,tr,as,hk,hlt,fin⟩:=h vs s1 c;refine aa (wpAny_newList ?_ (by rw [c6]; omega));have hoL:(s1.heap.push (seqObj "list" vs.toArray 0)).get? s1.heap.objs.size=some (seqObj "list" vs.toArray 0):=a8 _ rfl;have keep:∀ b o,s1.heap.get? b=some o->b≠s1.heap.objs.size/\(s1.heap.push (seqObj "list" vs.toArray 0)).get? b=some o:=fun b o q=>⟨a9 (az q),ah _ q⟩
 show wpAny _ _ _ _ _ { s1 with heap:=s1.heap.push (seqObj "list" vs.toArray 0) }
 refine aa (dg (ja slot_list_sort ⟨_,hoL,rfl⟩ entry_list_sort ?_ (args_list_sort _)));have tree:wpAny (model prog w) A.in1.in1 (Builtin.«list.sort» ⟨[.ref s1.heap.objs.size],[]⟩) (fun r s'=>∃ p:List Nat,r=.done (.ret .none)/\p.Perm (ba vs.length)/\p.Pairwise (fun i j=>lt j i=false)/\s'={ s1 with heap:=sortedHeap (s1.heap.push (seqObj "list" vs.toArray 0)) s1.heap.objs.size vs (p.map fun i=>vs.getD i cx).toArray }) E { s1 with heap:=s1.heap.push (seqObj "list" vs.toArray 0) }:=by
  by_cases h0:0 < vs.length
  ·exact uM (κ:=κ) lt tr as hoL h64 (fun s' kp Q hq=>hk _ s' (fun b o e=>kp b o (keep b o e).1 (keep b o e).2) h0 Q _ hq) (fun s' kp i j hi hj Q hq=>hlt s' (fun b o e=>kp b o (keep b o e).1 (keep b o e).2) i j hi hj Q hq) fun p a1 a2=>⟨p,rfl,a1,a2,rfl⟩
  ·have e0:vs=[]:=List.length_eq_zero_iff.mp (by omega);subst e0;exact rT hoL ⟨[],rfl,List.Perm.refl _,m5,rfl⟩
 refine gx tree (fun r s' hr=>?_) fun _ _ x=>x;obtain ⟨p,rfl,a1,a2,rfl⟩:=hr;refine ⟨_,rfl,ag ⟨_,rfl,?_⟩⟩;obtain ⟨e,he⟩:=sortedHeap_at (h:=s1.heap.push (seqObj "list" vs.toArray 0)) (out:=(p.map fun i=>vs.getD i cx).toArray) hoL;exact fin p _ e a1 a2 (fun b o q=>(sortedHeap_old (keep b o q).1 (by rw [size_push']; exact Nat.lt_succ_of_lt (az q))).trans (keep b o q).2) he
end
def rV (H:Hp) (ps:List (Addr×List V)):Hp:=fun b=>match ps.lookup b with
 | some xs=>some (.tup xs)
 | none=>H b
theorem tT {κ:Type} {x:Addr} {k:κ}:∀ {l:List (Addr×κ)},l.lookup x=some k->(x,k)∈l
 | [],h=>by simp at h
 | (n,v) :: r,h=>by
  by_cases hx:x=n
  ·subst hx;simp only [cb,beq_self_eq_true] at h;cases h
   exact aj
  ·have:(x == n)=false:=by simpa using hx
   simp only [cb,this] at h;exact ao _ (tT h)
theorem pP {κ:Type} {x:Addr}:∀ {l:List (Addr×κ)},(∀ p∈l,p.1≠x)->l.lookup x=none
 | [],_=>rfl
 | (n,v) :: r,h=>by
  have hx:(x == n)=false:=by
   have:=h (n,v) aj;simpa using fun e:x=n=>this e.symm
  simp only [cb,hx];exact pP fun p hp=>h p (ao _ hp)
theorem Dj {H:Hp} {ps:List (Addr×List V)} {b:Addr} (h:∀ p∈ps,p.1≠b):rV H ps b=H b:=by
 unfold rV; rw [pP h]
theorem Dk {H:Hp}:∀ {ps:List (Addr×List V)} {j:Nat} {a:Addr} {xs:List V},(ps.map (·.1)).Nodup->ps[j]?=some (a,xs)->rV H ps a=some (.tup xs)
 | [],_,_,_,_,h=>by simp at h
 | (n,v) :: r,0,a,xs,_,h=>by
  simp at h;obtain ⟨rfl,rfl⟩:=h;unfold rV;simp [cb]
 | (n,v) :: r,j+1,a,xs,nd,h=>by
  have nd':(n :: r.map (·.1)).Nodup:=nd;obtain ⟨n1,n2⟩:=fu.mp nd';have h':r[j]?=some (a,xs):=by simpa using h
  have ne:(a == n)=false:=by
   have:a∈r.map (·.1):=aq.mpr ⟨_,cg h',rfl⟩;simpa using fun e:a=n=>n1 (e ▸ this)
  have ih:=Dk (H:=H) n2 h';unfold rV at ih ⊢;simp only [cb,ne];exact ih
section
variable {X:Cx} {pins:List (Addr×Obj)} {σ:St} {H:Hp} {s:Shared} {h':Heap}
theorem Inv.laidT {ps:List (Addr×List V)} {t':Nat} (I:Inv X pins σ H s) (k:∀ b u,s.heap.get? b=some u->h'.get? b=some u) (hp:∀ p∈ps,s.heap.objs.size<=p.1) (new:∀ p∈ps,p.2.length<=aw/\∃ its:List Value,aM p.2 its/\oZ h' p.1 its.toArray):
  Inv X pins σ (rV H ps) { s with heap:=h',toks:=t' }:=by
 have nb:∀ b,b < s.heap.objs.size->∀ p∈ps,p.1≠b:=fun b hb p hp' e=>fj _ (bp hb (e ▸ hp p hp'));have old:∀ b,b < s.heap.objs.size->rV H ps b=H b:=fun b hb=>Dj (nb b hb);refine I.un ⟨fun b u q _ _ _=>k b u q,fun b u q _ _ _=>⟨u.slots,k b u q⟩,fun b u q n _=>(old b (az q)).trans n,fun b u q _=>⟨u,k b u q⟩,fun b xs q=>(old b (I.hok.lt q)).trans q,fun b u xs q=>(old b (I.hok.lt q)).trans q,fun b ps' q=>⟨#[],by rw [old b (I.hok.lt q),q]; simp⟩⟩ ?_;intro b u e;unfold rV at e;cases q:ps.lookup b with
 | some xs=>
  rw [q] at e;cases e
  obtain ⟨z,its,r,p⟩:=new _ (tT q);exact ⟨z,its,r,p⟩
 | none=>
  rw [q] at e;have hb:=I.hok.lt e;exact (I.hok b u e).stay (fun c v _ q=>k c v q) (fun c q=>(old c (I.hok.lt q)).trans q) fun c xs q=>(old c (I.hok.lt q)).trans q
theorem Jc (I:Inv X pins σ H s) {ps:List (Addr×List V)} (hp:∀ p∈ps,s.heap.objs.size<=p.1):D7 H (rV H ps):=fun b o e=>by
 have nb:∀ p∈ps,p.1≠b:=fun p hp' z=>fj _ (bp (I.hok.lt e) (z ▸ hp p hp'));rw [Dj nb];exact e
end
def FB (v d:Addr):HO:=.ext fun h=>h.IsItemsView v d
section
variable {X:Cx}
def Ly:V->List V->Hp->VK->Prop:=fun x xs H Q=>∃ d kvs,x=.ref d/\xs=[]/\H d=some (.dK kvs)/\∀ l,H l=none->Q (.ref l) (upd H l (FB l d))
theorem Lz:MtR X "dict.items" Ly:=by
 intro pins s σ H x xs v us Q I rx rv h;obtain ⟨d,kvs,rfl,rfl,hd,q⟩:=h;cases rx
 cases rv
 obtain ⟨z,y,vs,r,D⟩:=I.hok d _ hd;refine jf PySem.F.slot_dict_items D.typeIs PySem.F.entry_dict_items (PySem.F.args_dict_items_1 _) (meets_dict_items (bL X.prog X.w) d y) ⟨⟨vs,D⟩,?_⟩;refine ⟨.ref s.heap.objs.size,_,I.laid (t':=s.toks) (o:=FB s.heap.objs.size d) (fun b u e=>ah _ e) (ai _) ?_,rfl,q _ I.fresh⟩;exact ⟨⟨_,a8 _ rfl,rfl,rfl⟩,⟨_,a8 _ rfl⟩,fun h1 h2 ⟨o,e,p⟩ k=>⟨o,k o e,p⟩⟩
def Br (K:af) (kss:List (List Key)) (Q:VK) (H1:Hp):Prop:=∀ (l:Addr) (kss':List (List Key)) (vs':List V),H1 l=none->kss'.Perm kss->kss'.Pairwise (fun a b=>bM b a=false)->cI K H1 (kss'.map tD) vs'->Q (.ref l) (upd H1 l (.lst vs'))
def Tq (K:af):List V->Hp->VK->Prop:=fun xs H Q=>∃ (p:Addr) (kss:List (List Key)) (sh:List Bool) (b:Bool),xs=[.ref p]/\kss.length < 64/\(∀ ks∈kss,shape ks=b :: sh)/\
 ((∃ vs,SqL K H p vs/\cI K H (kss.map tD) vs/\Br K kss Q H)\/
  (∃ d kvs,H p=some (FB p d)/\H d=some (.dK kvs)/\kvs.map (fun kv=>[kV kv.1,kv.2])=kss.map (fun ks=>ks.map kV)/\∀ H1,D7 H H1->Br K kss Q H1))
theorem Ak {α:Type} {xs:List α} {d:α} {p:List Nat} (h:p.Perm (ba xs.length)):(p.map fun i=>xs.getD i d).Perm xs:=by
 have e:(ba xs.length).map (fun i=>xs.getD i d)=xs:=by
  apply g7;intro i
  by_cases hi:i < xs.length
  ·simp [hi]
  ·simp [hi]
 have:=h.map fun i=>xs.getD i d
 rwa [e] at this
theorem Al {K:af} {H:Hp} {ds:List D} {vs:List V} (r:cI K H ds vs):∀ {p:List Nat},(∀ i∈p,i < ds.length)->cI K H (p.map fun i=>ds.getD i .non) (p.map fun i=>vs.getD i .non)
 | [],_=>trivial
 | i :: p,h=>by
  have hi:=h i aj;have g:ds[i]?=some (ds.getD i .non):=by simp [hi]
  obtain ⟨v,hv,hr⟩:=r.at g;have e:vs.getD i .non=v:=by simp [fb,hv]
  refine ⟨?_,Al r fun j hj=>h j (ao _ hj)⟩
  show Rep K H (ds.getD i .non) (vs.getD i .non)
  rw [e];exact hr
theorem rW {vs:List V} {us:List Value} (r:aM vs us):∀ {p:List Nat},(∀ i∈p,i < vs.length)->aM (p.map fun i=>vs.getD i .non) (p.map fun i=>us.getD i cx)
 | [],_=>.nil
 | i :: p,h=>by
  have hi:=h i aj;have g:vs[i]?=some (vs.getD i .non):=by simp [hi]
  obtain ⟨u,hu,hr⟩:=r.get g;have e:us.getD i cx=u:=by simp [fb,hu]
  refine .cons ?_ (rW r fun j hj=>h j (ao _ hj))
  show RelV (vs.getD i .non) (us.getD i cx)
  rw [e];exact hr
theorem Bs (hc:X.calm=true) (K:af) (hK:X.K=K):bS X (.builtin "sorted") (Tq K):=by
 subst hK;intro pins s σ H xs us Q I r h;obtain ⟨p,kss,sh,b,rfl,h64,hsh,h⟩:=h;obtain ⟨u,rfl,ru⟩:=vals1 r;cases ru
 have shOf:∀ i,i < kss.length->shape (kss.getD i [])=b :: sh:=fun i hi=>by
  have:kss.getD i []=kss[i]:=by simp [hi]
  rw [this];exact hsh _ (fm hi)
 refine Jb (κ:=tuples' true) (fun its s1=>∃ H1 vs,Inv X pins σ H1 s1/\aM vs its/\cI X.K H1 (kss.map tD) vs/\Br X.K kss Q H1) ?col ?fin
 case fin=>
  rintro its s1 ⟨H1,vs,I1,rv,rr,fin⟩;have l1:=rv.length;have l2:kss.length=vs.length:=by simpa using rr.length
  have hlen:its.length=kss.length:=by omega
  have tk:=nZ I1 rr rv;refine ⟨by omega,fun i j=>bM (kss.getD i []) (kss.getD j []),fun i j k hi hj hk h1 h2=>?_,fun i j _ _ h=>pM h,fun A' s' kp h0 Q' E' hq=>?_,fun s' kp i j hi hj Q' hq=>?_,fun q h' e a1 a2 kp he=>?_⟩
  ·exact mI ((shOf i (by omega)).trans (shOf j (by omega)).symm) ((shOf j (by omega)).trans (shOf k (by omega)).symm) h1 h2
  ·exact Aj (tk.kept kp) hsh h0 hq
  ·obtain ⟨a,ua,e1,p1,r1⟩:=(tk.kept kp).get hi;obtain ⟨c,uc,e2,p2,r2⟩:=(tk.kept kp).get hj;rw [e1,e2];exact vX p1 p2 r1 r2 ((shOf i (by omega)).trans (shOf j (by omega)).symm) hq
  ·have hin:∀ i∈q,i < kss.length:=fun i hi=>by
    have:=a1.mem_iff.mp hi;rw [ia] at this;omega
   rw [hlen] at a1;have rr':=Al rr (p:=q) (fun i hi=>by rw [ae]; exact hin i hi);have em:(q.map fun i=>(kss.map tD).getD i .non)=(q.map fun i=>kss.getD i []).map tD:=by
    rw [cj];apply d0;intro i hi;have:=hin i hi;simp [this]
   rw [em] at rr';refine ⟨.ref s1.heap.objs.size,_,I1.laid (t':=s1.toks) (o:=.lst (q.map fun i=>vs.getD i .non)) kp (ai _) ?_,rfl,fin _ _ _ I1.fresh (Ak a1) ?_ rr'⟩
   ·refine ⟨?_,q.map (fun i=>its.getD i cx),e,rW rv (fun i hi=>by have:=hin i hi; omega),he⟩;rw [ae,a1.length_eq,jv,c6];omega
   ·rw [df];exact a2
 case col=>
  rcases h with ⟨vs,hq,rr,fin⟩ | ⟨d,kvs,hv,hd,hk,fin⟩
  ·obtain ⟨its,rv,pl,hz⟩:=I.list hq;refine collect_list pl.isList ?_ (by have:=rv.length; omega);exact ⟨H,vs,I.kept (t':=s.toks) fun b o e=>by
    have hlt:b < s.heap.objs.size:=az e
    first
     | (rw [j9 _ _ _ _ (a9 hlt),ju _ _ _ (a9 hlt)]; exact e)
     | exact ah _ e,rv,rr,fin⟩
  ·obtain ⟨hview,_,_⟩:=I.hok p _ hv;obtain ⟨z,y,vs,rkv,D⟩:=I.hok d _ hd;obtain ⟨ep,D'⟩:=D.dictAt;have lkv:kvs.length=vs.length:=KV.length rkv;have lks:kvs.length=kss.length:=by simpa using congrArg List.length hk
   refine kdx_collect (A:=X.A.in1) (knd:=bL X.prog X.w) (kvs:=vs) (ep:=ep) (I.ok.hd hc) hview D' (by rw [c6]; omega) fun h' tk as kp hl hG=>?_
   -- the new tuples
   let ps:List (Addr×List V):=as.zip (kss.map fun ks=>ks.map kV);have psl:ps.map (·.1)=as:=by
    show (as.zip _).map Prod.fst=as
    rw [List.map_fst_zip];rw [ae];omega
   have hpl:∀ q∈ps,s.heap.objs.size<=q.1:=fun q hq=>by
    have:q.1∈as:=by rw [<- psl]; exact aq.mpr ⟨q,hq,rfl⟩
    exact iy (hG.above _ this)
   have nd:(ps.map (·.1)).Nodup:=by
    rw [psl];exact hG.rise.imp fun h=>a9 h
   have each:∀ (j:Nat) (a:Addr),as[j]?=some a->∃ ks us,kss[j]?=some ks/\ps[j]?=some (a,ks.map kV)/\aM (ks.map kV) us/\oZ h' a us.toArray/\ks.length<=2:=fun j a ha=>by
    obtain ⟨key,kk,x,e1,e2,e3⟩:=hG.pairs j a ha;have hj:j < kss.length:=by
     have:=(ab.mp ha).1;omega
    have hjk:j < kvs.length:=by omega
    have g1:kss[j]?=some kss[j]:=by simp [hj]
    have g2:kvs[j]?=some kvs[j]:=by simp [hjk]
    have g3:(kss[j]).map kV=[kV kvs[j].1,kvs[j].2]:=by
     have:=congrArg (fun l=>l[j]?) hk;simp [g1,g2] at this;exact this.symm
    -- the raw pair
    have rr:∀ {kvs:List (Key×V)} {vs:List (Key×Value)} {j:Nat} {kv:Key×V} {w':Key×Value},KV kvs vs->kvs[j]?=some kv->vs[j]?=some w'->kv.1=w'.1/\RelV kv.2 w'.2:=by
     intro kvs vs j kv w' h
     induction h generalizing j with
     | nil=>intro h1; simp at h1
     | cons r t ih=>
      intro h1 h2;cases j with
      | zero=>simp at h1 h2; subst h1 h2; exact r
      | succ j=>exact ih (by simpa using h1) (by simpa using h2)
    obtain ⟨q1,q2⟩:=rr rkv g2 e1;refine ⟨kss[j],[key,x],g1,?_,?_,⟨_,e3,rfl,⟨0,rfl⟩,rfl⟩,?_⟩
    ·show (as.zip _)[j]?=_
     rw [List.getElem?_zip_eq_some];exact ⟨ha,by simp [g1]⟩
    ·rw [g3];refine .cons ?_ (.cons q2 .nil);rw [q1];have e2':vH kk key=true:=e2;rcases bV e2' with ⟨i,t,rfl,rfl⟩ | ⟨y,t,rfl,rfl⟩
     ·exact ⟨t,rfl⟩
     ·exact ⟨t,rfl⟩
    ·have:=congrArg List.length g3;simp at this;omega
   have I1:Inv X pins σ (rV H ps) { s with heap:=h',toks:=tk }:=I.laidT kp hpl fun q hq=>by
    obtain ⟨j,hj⟩:=dw.mp hq;have ha:as[j]?=some q.1:=by
     have:=congrArg (fun l=>l[j]?) psl;simp [hj] at this;exact this.symm
    obtain ⟨ks,us,_,e2,e3,e4,e5⟩:=each j q.1 ha;rw [hj] at e2;have eq2:q.2=ks.map kV:=by
     have:=bh e2;rw [this]
    refine ⟨?_,us,by rw [eq2]; exact e3,e4⟩;rw [eq2,ae,c6];omega
   refine ⟨rV H ps,as.map V.ref,I1,?_,?_,fin _ (Jc I hpl)⟩
   ·have:∀ l:List Addr,aM (l.map V.ref) (l.map dm):=fun l=>by
     induction l with
     | nil=>exact .nil
     | cons a l ih=>exact .cons rfl ih
    exact this as
   ·have gen:∀ (l:List Addr) (ls:List (List Key)),l.length=ls.length->(∀ (j:Nat) a ks,l[j]?=some a->ls[j]?=some ks->rV H ps a=some (.tup (ks.map kV)))->cI X.K (rV H ps) (ls.map tD) (l.map V.ref):=by
     intro l
     induction l with
     | nil=>
      intro ls hl _;cases ls with
      | nil=>exact trivial
      | cons _ _=>cases hl
     | cons a l ih=>
      intro ls hl hh;cases ls with
      | nil=>cases hl
      | cons ks ls=>
       refine ⟨⟨a,_,rfl,SqT.of (hh 0 a ks rfl rfl),Ai ks⟩,ih ls (by simpa using hl) fun j a' ks' h1 h2=>hh (j+1) a' ks' (by simpa using h1) (by simpa using h2)⟩
    refine gen as kss (by omega) fun j a ks h1 h2=>?_;obtain ⟨ks',us,e1,e2,_⟩:=each j a h1;rw [h2] at e1;cases e1
    exact Dk nd e2
end
end L2
namespace L2
open PySem PySem.Spec PyProof.Rows
theorem zI:typeLookup (.type "tuple") "keys" = pure none:=by rw [typeLookup_type,builtinLookup_eq_fast]; kernel_rfl
theorem eZ:entryFor table "dict.update.loop" = some Builtin.«dict.update.loop»:=entryFor_of_tree (by kernel_rfl)
theorem bW:plainId "dict.update.loop" = true:=by decide +kernel
theorem zJ {prog:Program} {w:World} {A:Around} {E:Value->Shared->Prop} {s:Shared} {a:Addr} {o:Obj} {xs:Array Value} {k:Nat} {Q:Option Value->Shared->Prop}
  (hx:s.heap.get? a=some o) (hc:o.cls=.type "tuple") (hdat:o.data=.seq xs k) (hd:o.dict=none) (hA:A.handled=none)
  (h:∀ h' tk,(∀ b u,s.heap.get? b=some u->h'.get? b=some u)->Q none { s with heap:=h',toks:=tk }):wpAny (model prog w) A (getAttr? (.ref a) "keys") Q E s:=by
 obtain ⟨c,dct,dat,sl⟩:=o;simp only at hc hdat hd;subst hc hdat hd;obtain ⟨hp,g,d,tk,os⟩:=s;have hT:∀ tk',(⟨hp,g,d,tk',os⟩:Shared).TypeIs (.ref a) "tuple" := fun _=>⟨_,hx,rfl⟩;have f1:=sub_AttributeError;have f3:=F.slot_tuple_getattribute.lookup;have f4:=F.slot_tuple_getattribute.bind (.ref a);have f5:=am_tuple_getattr_none;unfold getAttr? getAttrBy? getAttrBy
 repeat (any_goals (first | assumption | exact hT _ | ((with_reducible show wpAny _ _ (call (Value.builtin "tuple.__getattribute__") _ _) _ _ _); refine call_meets F.slot_tuple_getattribute (hT _) am_entry_tuple_getattribute (F.args_tuple_getattribute_2 _ _) (meets_getattribute_miss_tuple a xs k sl "keys" _ zI (by decide) (by size_fits)) ⟨hx,hA,fun h' tk' e hx'=>?_⟩) | wp_step))
 obtain ⟨t',u',he⟩:=hx'.there
 show wpAny _ _ (getattributeRaised _ _ _ _ _ _ _) _ _ _
 unfold getattributeRaised
 repeat (any_goals (first | assumption | wp_step))
 exact h _ _ hx'.of.keeps
section
variable {prog:Program} {w:World} {K:Type} [DecidableEq K] {knd:KeyKind prog w K} {A:Around} {R:Result->Shared->Prop}
theorem FC {I d:Addr} {fp wr:List Addr} {n:Nat} {P:Nat->Value->Prop} {St:Nat->Heap->Prop} (W:Walks prog w A.in1 I fp wr n P St) (hd:d∉fp) (ps:List (Addr×K×Value×Value)) (hn:ps.length=n)
  (hP:∀ i v,P i v->∃ p,ps[i]?=some p/\v=.ref p.1) (hT:∀ p∈ps,p.1∉wr/\p.1≠d) (hk:∀ p∈ps,knd.is p.2.1 p.2.2.1=true) (res:Value):
  ∀ (m i:Nat) (s:Shared) (kvs:List (K×Value)),n - i=m->i<=n->St i s.heap->s.heap.DictOf knd d kvs->kvs.length+n<=aw+i->(∀ p∈ps,IsTup s.heap p.1 #[p.2.2.1,p.2.2.2])->
  (∀ h' tk,h'.DictOf knd d (merged kvs ((ps.drop i).map fun p=>(p.2.1,p.2.2.2)))->(∀ b o,b≠d->b∉wr->s.heap.get? b=some o->h'.get? b=some o)->R (.ok (.ret res)) { s with heap:=h',toks:=tk })->
  codeAny (model prog w) A (.builtin "dict.update.loop" ⟨[.ref d,.ref I,rawInt i,res],[]⟩) R s:=by
 have hdw:d∉wr:=fun h=>hd (W.sub _ h);intro m
 induction m with
 | zero=>
  intro i s kvs hm hi hst hdt hz hit hR;have hin:i=n:=by omega
  subst hin;refine k0 eZ ?_;rw [iw bW _]
  show wpAny _ A.in1 (pyNext (.ref I) >>= _) _ _ s
  refine aa (W.done s _ _ hst fun h' tk hk'=>?_)
  show wpAny _ A.in1 (Builtin.Dict.addKeywords d [] >>= _) _ _ _
  have hfin:=hR h' tk (by
   rw [List.drop_of_length_le (by omega)];obtain ⟨o,es,ep,h1,h2⟩:=hdt;exact ⟨o,es,ep,hk' d _ hdw h1,h2⟩) fun b o _ hb e=>hk' b o hb e
  exact aa (ag (ag hfin))
 | succ m ih=>
  intro i s kvs hm hi hst hdt hz hit hR;have hlt:i < n:=by omega
  refine k0 eZ ?_;rw [iw bW _]
  show wpAny _ A.in1 (pyNext (.ref I) >>= _) _ _ s
  refine aa (W.item i s _ _ hlt hst fun v h' tk hPv hst' hk'=>?_);obtain ⟨p,hp,rfl⟩:=hP i v hPv;have hpm:=cg hp;obtain ⟨ob,hb1,hb2,nn,hb3⟩:=hit p hpm;have hb1':=hk' _ _ (hT p hpm).1 hb1;have hTy:({ s with heap:=h',toks:=tk }:Shared).TypeIs (.ref p.1) "tuple" := ⟨ob,hb1',hb2⟩;have hdt':h'.DictOf knd d kvs:=by
   obtain ⟨o,es,ep,h1,h2⟩:=hdt;exact ⟨o,es,ep,hk' d _ hdw h1,h2⟩
  refine aa (dg (aa (l0 ?_)));unfold Builtin.Dict.pairItems;refine aa (mj hTy ?_);rw [if_pos (by decide)];refine aa (wpAny_seqItems hb1' hb3 (ag ?_))
  show wpAny _ _ (holding [p.2.2.1,p.2.2.2] (dictSet d p.2.2.1 p.2.2.2)) _ _ _
  refine dg (wpAny_dictSet_pairs (hk p hpm) hdt' (hsz:=by omega) fun h2 hd2 hs2=>?_);refine ag ⟨ka bW _,?_⟩;have st2:St (i+1) h2:=W.frame (i+1) h' h2 hst' fun b hb o e=>(hs2.2 b (fun z=>hd (z ▸ hb))).trans e;refine ih (i+1) _ (stored kvs p.2.1 p.2.2.2) (by omega) hlt st2 hd2 ?_ (fun q hq=>?_) fun h3 tk3 hd3 hk3=>?_
  ·have:=stored_length_le kvs p.2.1 p.2.2.2;omega
  ·obtain ⟨ob',c1,c2⟩:=hit q hq;exact ⟨ob',(hs2.2 _ (hT q hq).2).trans (hk' _ _ (hT q hq).1 c1),c2⟩
  ·refine hR h3 tk3 ?_ fun b o hb hw e=>hk3 b o hb hw ((hs2.2 b hb).trans (hk' b o hw e));have hdr:ps.drop i=p :: ps.drop (i+1):=by
    obtain ⟨hl,e⟩:=ab.mp hp;rw [jo hl,e]
   rw [hdr];exact hd3
theorem uN {E:Value->Shared->Prop} {s:Shared} {a:Addr} {o:Obj} {k:Nat} {ps:List (Addr×K×Value×Value)} {Q:Value->Shared->Prop} (hA:A.handled=none) (hx:s.heap.get? a=some o) (hc:o.cls=.type "tuple") (hdat:o.data=.seq (ps.map fun p=>dm p.1).toArray k) (hd:o.dict=none)
  (hk:∀ p∈ps,knd.is p.2.1 p.2.2.1=true) (hit:∀ p∈ps,IsTup s.heap p.1 #[p.2.2.1,p.2.2.2]) (hz:ps.length<=aw)
  (h:∀ h' tk,h'.DictOf knd s.heap.objs.size (merged [] (ps.map fun p=>(p.2.1,p.2.2.2)))->(∀ b u,s.heap.get? b=some u->h'.get? b=some u)->Q (.ref s.heap.objs.size) { s with heap:=h',toks:=tk }):
  wpAny (model prog w) A (call (.type "dict") [.ref a]) Q E s:=by
 refine callType_codes (Q₁:=fun obj s₁=>obj=.ref s.heap.objs.size/\s₁={ s with heap:=s.heap.push { cls:=.type "dict",data:=.dict #[] } }) F.kt_called_dict (F.kt_typeCall_dict_1 _) F.entry_dict_init (kt_code_dict_new _ ⟨rfl,rfl⟩) ?_;rintro obj s₁ ⟨rfl,rfl⟩;have hnew:(s.heap.push { cls:=.type "dict",data:=.dict #[] }).DictOf knd s.heap.objs.size []:=Heap.DictOf.new s.heap;have up:∀ b u,s.heap.get? b=some u->(s.heap.push { cls:=.type "dict",data:=.dict #[] }).get? b=some u:=fun b u e=>ah _ e;have hTa:({ s with heap:=s.heap.push { cls:=.type "dict",data:=.dict #[] } }:Shared).TypeIs (.ref a) "tuple" := ⟨o,up _ _ hx,hc⟩;refine ⟨hnew.typeIs,F.args_dict_init_2 _ _,?_⟩;unfold Builtin.«dict.__init__»;refine aa ?_; unfold Builtin.Dict.selfAndRest;refine aa (jh hnew.typeIs (show wpAny _ _ (pure (s.heap.objs.size,[dm a])) _ _ _ from ag ?_))
 show wpAny _ _ (kc "dict.__init__" s.heap.objs.size (.ref a) [] .none) _ _ _
 unfold kc;refine aa (mj hTa ?_);rw [if_pos (by decide)];refine aa (zJ (up _ _ hx) hc hdat hd hA fun h1 tk1 kp1=>?_);rw [if_pos (by rfl)];refine aa (jt ?_);have ha1:IsTup h1 a (ps.map fun p=>dm p.1).toArray:=⟨o,kp1 _ _ (up _ _ hx),hc,k,hdat⟩;refine aa (wpAny_pyIter_tuple (show ({ s with heap:=h1,toks:=tk1 }:Shared).heap.IsTuple a _ from ha1) (ag ⟨ka bW _,?_⟩))
 have lt0:s.heap.objs.size < h1.objs.size:=by
  have:=kp1 s.heap.objs.size _ (a8 s.heap rfl);exact az this
 have hlt:∀ b u,s.heap.get? b=some u->b < s.heap.objs.size:=fun b u e=>az e;have ha0:=hlt _ _ hx;refine FC (knd:=knd) (fp:=[h1.objs.size,a]) (wr:=[h1.objs.size]) (n:=(ps.map fun p=>dm p.1).toArray.size) (Walks.tuple (A:=A.in1.in1) hA h1.objs.size a (a9 (mn ha0 lt0)) (ps.map fun p=>dm p.1).toArray) ?_ ps (by simp) (fun i v e=>?_) (fun p hp=>?_) hk .none _ 0 _ [] (Nat.sub_zero _) (b9 _) ?_ ?_ (by simpa using hz) (fun p hp=>?_) fun h' tk dd kk=>?_
 ·intro z;rcases bc.mp z with z | z
  ·exact a9 lt0 z
  ·exact a9 ha0 (bu.mp z).symm
 ·have e':(ps.map fun p=>dm p.1)[i]?=some v:=by simpa using e
  rw [au] at e';obtain ⟨p,hp,rfl⟩:=a7.mp e';exact ⟨p,hp,rfl⟩
 ·obtain ⟨ob,e,_⟩:=hit p hp;have h0:=hlt _ _ e;exact ⟨fun z=>a9 (mn h0 lt0) (bu.mp z),a9 h0⟩
 ·refine ⟨⟨_,a8 _ rfl,rfl,rfl⟩,?_⟩;obtain ⟨ob,e,r⟩:=ha1;exact ⟨ob,ah _ e,r⟩
 ·obtain ⟨oo,es,ep,e,r⟩:=hnew;exact ⟨oo,es,ep,ah _ (kp1 _ _ e),r⟩
 ·obtain ⟨ob,e,r⟩:=hit p hp;exact ⟨ob,ah _ (kp1 _ _ (up _ _ e)),r⟩
 ·refine ⟨rfl,h h' tk (by simpa using dd) fun b u e=>?_⟩
  have h0:=hlt _ _ e;exact kk b u (a9 h0) (fun z=>a9 (mn h0 lt0) (bu.mp z)) (ah _ (kp1 _ _ (up _ _ e)))
end
section
variable {prog:Program} {w:World} {K:Type} [DecidableEq K] {A:Around} {E:Value->Shared->Prop} {s:Shared}
theorem uO {knd:HeapKind prog w K} {d a:Addr} {xs:List (K×Addr×Value)} {k:K} {x:Value} {Q:Value->Shared->Prop} (hu:knd.room A) (hkey:knd.is s.heap k a) (hm:s.heap.DictOfH knd d xs) (hz:xs.length<=aw)
  (there:∀ p,atKey xs k=some p->Q p.2 { s with toks:=s.toks+knd.draws k })
  (new:atKey xs k=none->∀ h',h'.DictOfH knd d (storedH xs k a x)->ie d s.heap h'->Q x { s with heap:=h',toks:=s.toks+knd.draws k }):wpAny (model prog w) A (l7 d (.ref a) x) Q E s:=by
 obtain ⟨o,es,ep,ho,hc,hd,he,his,hn⟩:=hm;unfold l7;refine dg (aa (knd.pyHash hu hkey ?_));refine aa (wpAny_dictFind_heap (s:={ s with toks:=s.toks+knd.draws k }) hu hkey ho hd he his hn (fun hno=>?_) (fun j p hj=>?_))
 ·have hat:=atKey_none_of_get hno;have fresh:=not_mem_keys_of_get hno;refine aa (jt (aa (wpAny_updateDictKeys (hz:=by have e:=size_of_entries he; omega) (s:={ s with toks:=s.toks+knd.draws k }) ho hd (ag (new hat _ ⟨_,_,ep+1,kr _ ho (Obj.isFreed_of_dict (lg hd _)),hc.mapDictKeys _,lg hd _,?_,?_,?_⟩ (d4 ..))))))
  ·rw [storedH_new hat,Array.toList_push,he,cz]; rfl
  ·rw [storedH_new hat];intro z hz';rcases bj.mp hz' with q | q
   ·exact knd.keeps (his z q) ho hd (d4 ..)
   ·rw [bu.mp q];exact knd.keeps hkey ho hd (d4 ..)
  ·rw [storedH_new hat,cz,i4];refine ⟨hn,by simp,fun u hu' v hv e=>fresh ?_⟩;have:v=k:=by simpa using hv
   rw [<- this,<- e];exact hu'
 ·have hat:atKey xs k=some p:=atKey_of_get hn hj;refine aa (k7 (s:={ s with toks:=s.toks+knd.draws k }) ho hd ?_);rw [entry_at he j,hj];exact aa (jt (ag (there p hat)))
theorem rX {knd:KeyKind prog w K} {d:Addr} {kvs:List (K×Value)} {k:K} {key x:Value} {Q:Value->Shared->Prop} (hkey:knd.is k key=true) (hm:s.heap.DictOf knd d kvs) (hz:kvs.length<=aw)
  (there:∀ v,valueAt kvs k=some v->Q v { s with toks:=s.toks+1 })
  (new:valueAt kvs k=none->∀ h',h'.DictOf knd d (stored kvs k x)->ie d s.heap h'->Q x { s with heap:=h',toks:=s.toks+1 }):wpAny (model prog w) A (l7 d key x) Q E s:=by
 have hmap:=hm.mapOf;obtain ⟨o,es,ep,ho,hc,hd,hk,hp,hn⟩:=id hm;have hes:es.size<=aw:=by
  have e1:=hp.length;rw [dz] at e1;omega
 unfold l7;refine dg (aa (knd.pyHash hkey (aa (wpAny_dictFind_of (s:={ s with toks:=s.toks+1 }) hkey ho hd hk ?_))));have hidx:(es.findIdx? fun e=>knd.is k e.key)=kvs.findIdx? fun kv=>decide (kv.1=k):=by rw [<- hp.findIdx k]; obtain ⟨l⟩:=es; simp
 cases hi:es.findIdx? fun e=>knd.is k e.key with
 | some i=>
  refine aa (k7 (s:={ s with toks:=s.toks+1 }) ho hd ?_);obtain ⟨o',es',ep',ho',_,hd',_,hf⟩:=hmap;obtain rfl:o=o':=bh (ho.symm.trans ho');have ees:es=es':=by rw [hd] at hd'; injection hd'
  subst ees;have hfk:valueAt kvs k=(es[i]?).map (·.val):=by rw [<- hf k,findBy_of_findIdx?,hi]
  have hlt:i < es.size:=(Array.findIdx?_eq_some_iff_findIdx_eq.mp hi).1;rw [Array.getElem?_eq_getElem hlt] at hfk ⊢;exact aa (jt (ag (there _ hfk)))
 | none=>
  have fresh:k∉kvs.map (·.1):=not_mem_of_findIdx_none (hidx ▸ hi);have hany:¬ (kvs.any fun kv=>decide (kv.1=k))=true:=by
   rw [List.any_eq_true];rintro ⟨kv,q1,q2⟩;exact fresh (aq.mpr ⟨kv,q1,of_decide_eq_true q2⟩)
  have hv:valueAt kvs k=none:=by
   obtain ⟨o',es',ep',ho',_,hd',_,hf⟩:=hmap;obtain rfl:o=o':=bh (ho.symm.trans ho');have ees:es=es':=by rw [hd] at hd'; injection hd'
   subst ees;rw [<- hf k,findBy_of_findIdx?,hi]
  refine aa (jt (aa (wpAny_updateDictKeys (hz:=hes) (s:={ s with toks:=s.toks+1 }) ho hd (ag (new hv _ ⟨_,_,ep+1,kr _ ho (Obj.isFreed_of_dict (lg hd _)),hc.mapDictKeys _,lg hd _,hk.push hkey _,?_,?_⟩ (d4 ..))))))
  ·rw [stored,if_neg hany];have q:=hp.append hkey (knd.hash k) x;obtain ⟨l⟩:=es;simpa using q
  ·rw [stored,if_neg hany,cz,i4];refine ⟨hn,by simp,fun u hu' v hv' e=>fresh ?_⟩;have:v=k:=by simpa using hv'
   rw [<- this,<- e];exact hu'
end
section
variable {prog:Program} {w:World} {K:Type} [DecidableEq K]
theorem kF (knd:HeapKind prog w K) (d a:Addr) (hd:(d == fh)=false) (x:Value):
  MeetsIn prog w (Builtin.«dict.setdefault» ⟨[.ref d,.ref a,x],[]⟩) (fun A R s=>knd.room A.in1/\∃ k xs,knd.is s.heap k a/\s.heap.DictOfH knd d xs/\xs.length<=aw/\(∀ p,atKey xs k=some p->R (.ok (.ret p.2)) { s with toks:=s.toks+knd.draws k })/\
   (atKey xs k=none->∀ h',h'.DictOfH knd d (storedH xs k a x)->ie d s.heap h'->R (.ok (.ret x)) { s with heap:=h',toks:=s.toks+knd.draws k })):=
 .of_wp fun A R s ⟨hu,k,xs,hkey,hm,hz,r1,r2⟩=>by
  unfold Builtin.«dict.setdefault»;refine aa ?_; unfold Builtin.Dict.keyAndDefault;refine aa (jh hm.typeIs (show wpAny _ _ (pure (d,dm a,some x)) _ _ s from ag ?_))
  show wpAny _ _ (if (d == fh)=true then _ else (l7 d (.ref a) x >>= _)) _ _ s
  rw [if_neg (show ¬ _ from by rw [hd]; decide)]
  exact aa (uO hu hkey hm hz (fun p e=>ag ⟨p.2,rfl,r1 p e⟩) fun e h' q1 q2=>ag ⟨x,rfl,r2 e h' q1 q2⟩)
theorem jN (knd:KeyKind prog w K) (d:Addr) (hd:(d == fh)=false) {k:K} {key:Value} (hkey:knd.is k key=true) (x:Value):
  MeetsIn prog w (Builtin.«dict.setdefault» ⟨[.ref d,key,x],[]⟩) (fun A R s=>∃ kvs,s.heap.DictOf knd d kvs/\kvs.length<=aw/\(∀ v,valueAt kvs k=some v->R (.ok (.ret v)) { s with toks:=s.toks+1 })/\
   (valueAt kvs k=none->∀ h',h'.DictOf knd d (stored kvs k x)->ie d s.heap h'->R (.ok (.ret x)) { s with heap:=h',toks:=s.toks+1 })):=
 .of_wp fun A R s ⟨kvs,hm,hz,r1,r2⟩=>by
  unfold Builtin.«dict.setdefault»;refine aa ?_; unfold Builtin.Dict.keyAndDefault;refine aa (jh hm.typeIs (show wpAny _ _ (pure (d,key,some x)) _ _ s from ag ?_))
  show wpAny _ _ (if (d == fh)=true then _ else (l7 d key x >>= _)) _ _ s
  rw [if_neg (show ¬ _ from by rw [hd]; decide)]
  exact aa (rX hkey hm hz (fun v e=>ag ⟨v,rfl,r1 v e⟩) fun e h' q1 q2=>ag ⟨x,rfl,r2 e h' q1 q2⟩)
end
section
variable {prog:Program} {w:World} {A:Around} {E:Value->Shared->Prop} {s:Shared} {v dc it:Addr} {oc:Obj} {es:Array DictEntry} {ep:Nat}
theorem Jd {Q:Value->Shared->Prop} (hv:s.heap.IsValuesView v dc) (h1:s.heap.get? dc=some oc) (h2:oc.data=.dict es ep)
  (q:Q (.ref s.heap.objs.size) { s with heap:=s.heap.push { cls:=.type "dict_valueiterator",data:=.fields #[.ref dc,.int 0 0,.int es.size 0,.int ep 0] } }):wpAny (model prog w) A (pyIter (.ref v)) Q E s:=by
 obtain ⟨ov,g1,g2,g3⟩:=id hv;refine wpAny_pyIter_slot hv.typeIs F.slot_dict_values_iter (ja F.slot_dict_values_iter hv.typeIs F.entry_dict_values_iter (show wpAny _ _ (Builtin.«dict_values.__iter__» _) _ _ _ from ?_) (F.args_dict_values_iter_1 _))
 unfold Builtin.«dict_values.__iter__»;refine aa (ag (aa ?_)); unfold Builtin.Dict_items.dictOf;refine aa (wpAny_field g1 g3 (x:=.ref dc) rfl (ag (aa ?_))); unfold Builtin.Dict_items.newIterator;refine aa (k7 h1 h2 (aa (wpAny_dictEpoch h1 h2 ?_)));rw [show kn "dict_valueiterator" = false by decide]; simp only [dt,if_false];refine ft (ag ⟨_,rfl,"dict_valueiterator",_,⟨_,a8 _ rfl,rfl⟩,fg.lookup,(by simpa [rawInt] using q)⟩)
theorem LA {i:Nat} {Q:Option Value->Shared->Prop} (hI:s.heap.IsValIter it dc i es.size ep) (h1:s.heap.get? dc=some oc) (h2:oc.data=.dict es ep) (hlt:i < es.size)
  (q:∀ h',h'.IsValIter it dc (i+1) es.size ep->ie it s.heap h'->Q (some es[i].val) { s with heap:=h' }):wpAny (model prog w) A (pyNext (.ref it)) Q E s:=by
 obtain ⟨oi,g1,g2,g3⟩:=id hI;unfold pyNext;refine aa (wpAny_attempt (j7 (name:=j3 "__next__") hI.typeIs fg (ja fg hI.typeIs F.entry_dict_valueiterator_next ?_ (F.args_dict_valueiterator_next_1 _))));refine aa (ag (aa (aa ?_)))
 first | refine aa (ir hI.typeIs (ag ?_)) | refine aa (jx hI.typeIs (ag ?_))
 refine aa (wpAny_fieldsOf g1 g3 ?_);rw [show kn "dict_valueiterator" = false by decide]; simp only [dt,if_false]
 show wpAny _ _ (if (dm dc == cx)=true then _ else _) _ _ s
 rw [if_neg (show ¬ ((dm dc == cx)=true) from bz)]
 refine aa (ag (aa (k7 h1 h2 ?_)));rw [if_neg (show ¬ _ by simp)];refine aa (ag (aa (wpAny_dictEpoch h1 h2 ?_)));rw [if_neg (show ¬ _ by simp)];refine ag ?_;simp only [show ¬ ((i:Int) < 0) by omega,if_false,jq,Array.getElem?_eq_getElem hlt];refine aa ?_
 first | refine aa (ir hI.typeIs (ag ?_)) | refine aa (jx hI.typeIs (ag ?_))
 refine aa (wpAny_isOneOf_valiter hI.typeIs (show wpAny _ _ (setField (.ref it) 1 (rawInt ((i:Int)+1)) >>= _) _ _ s from aa (wpAny_setField g1 g3 (by simp) ?_)))
 have hI':(s.heap.update it (Obj.mapFields (·.setIfInBounds 1 (rawInt ((i:Int)+1))))).IsValIter it dc (i+1) es.size ep:=
  ⟨_,kr _ g1 (Obj.isFreed_of_fields (Obj.data_mapFields g3 _)),(Obj.cls_mapFields ..).trans g2,by rw [Obj.data_mapFields g3]; simp [rawInt]⟩
 have ty':({ s with heap:=s.heap.update it (Obj.mapFields (·.setIfInBounds 1 (rawInt ((i:Int)+1)))) }:Shared).TypeIs (.ref it) "dict_valueiterator" := hI'.typeIs;refine aa (dg (aa (wpAny_isOneOf_valiter ty' (aa (wpAny_isOneOf_valiter ty' ?_)))))
 show wpAny _ _ (pure es[i].val) _ _ _
 exact ag (ag ⟨_,rfl,ag (q _ hI' (d4 ..))⟩)
theorem LB {i:Nat} {Q:Option Value->Shared->Prop} (hh:A.handled=none) (hI:s.heap.IsValIter it dc i es.size ep) (h1:s.heap.get? dc=some oc) (h2:oc.data=.dict es ep) (hge:es.size<=i)
  (q:∀ h',Heap.ExtBut it s.heap h'->Q none { s with heap:=h' }):wpAny (model prog w) A (pyNext (.ref it)) Q E s:=by
 obtain ⟨oi,g1,g2,g3⟩:=id hI;unfold pyNext;refine aa (wpAny_attempt (j7 (name:=j3 "__next__") hI.typeIs fg (ja fg hI.typeIs F.entry_dict_valueiterator_next ?_ (F.args_dict_valueiterator_next_1 _))));refine aa (ag (aa (aa ?_)))
 first | refine aa (ir hI.typeIs (ag ?_)) | refine aa (jx hI.typeIs (ag ?_))
 refine aa (wpAny_fieldsOf g1 g3 ?_);rw [show kn "dict_valueiterator" = false by decide]; simp only [dt,if_false]
 show wpAny _ _ (if (dm dc == cx)=true then _ else _) _ _ s
 rw [if_neg (show ¬ ((dm dc == cx)=true) from bz)]
 refine aa (ag (aa (k7 h1 h2 ?_)));rw [if_neg (show ¬ _ by simp)];refine aa (ag (aa (wpAny_dictEpoch h1 h2 ?_)));rw [if_neg (show ¬ _ by simp)];refine ag ?_;simp only [show ¬ ((i:Int) < 0) by omega,if_false,jq,Array.getElem?_eq_none hge];refine aa ?_
 first | refine aa (ir hI.typeIs (ag ?_)) | refine aa (jx hI.typeIs (ag ?_))
 refine (show wpAny _ _ (setField (.ref it) 0 .none >>= _) _ _ s from aa (wpAny_setField g1 g3 (by simp) ?_))
 refine (show wpAny _ _ (newExc (.type "StopIteration") [] >>= _) _ _ _ from aa ?_); simp only [newExc,newTuple]
 refine aa (ft (aa (m:=firstArgMember _ _) (wpAny_of_eq (a:=cx) (by first | rfl | (simp only [firstArgMember]; rfl)) (ft ?_ (by size_fits)))) (by size_fits))
 simp only [raiseNew];refine aa (wpAny_handled ?_); rw [show A.in1.handled=none from hh]
 refine aa (ag (wpAny_throw ?_)); refine aa (wpAny_isInstance (T:="StopIteration") (b:=true) ⟨_,a8 _ rfl,rfl⟩ isSubtype_stop ?_);exact ag (q _ (((d4 ..).extBut.push _).push _))
theorem FD (hh:A.handled=none) (I dc:Addr) (hne:dc≠I) (oc:Obj) (es:Array DictEntry) (ep:Nat) (h2:oc.data=.dict es ep):
  Walks prog w A I [I,dc] [I] es.size (fun i v=>∃ e,es[i]?=some e/\v=e.val) (fun i h=>h.IsValIter I dc i es.size ep/\h.get? dc=some oc) where
 sub:=fun b hb=>by rw [bu.mp hb]; exact aj
 frame:=fun _ _ _ st hk=>⟨let ⟨o,e,r⟩:=st.1; ⟨o,hk I aj o e,r⟩,hk dc (ao _ aj) _ st.2⟩
 item:=fun i s Q E hi st hQ=>LA st.1 st.2 h2 hi fun h' hit' hs'=>hQ _ h' s.toks ⟨es[i],by simp [hi],rfl⟩ ⟨hit',(hs'.2 dc hne).trans st.2⟩ fun b o hb e=>(hs'.2 b fun z=>hb (by rw [z]; exact aj)).trans e
 done:=fun s Q E st hQ=>LB hh st.1 st.2 h2 (ai _) fun h' he'=>hQ h' s.toks fun b o hb e=>he' b o (fun z=>hb (by rw [z]; exact aj)) e
 self:=fun _ _ _ _ st hQ=>wpAny_pyIter_valiter st.1 hQ
theorem LC {r:Addr} (h2:oc.data=.dict es ep):PySem.W.KdlSrc prog w "dict_values" r dc es.size (fun i v=>∃ e,es[i]?=some e/\v=e.val) (fun h=>h.IsValuesView r dc/\h.get? dc=some oc) where
 type:=fun _ hm=>hm.1.typeIs
 there:=fun _ hm=>⟨let ⟨_,ho,_⟩:=hm.1; az ho,az hm.2⟩
 keep:=fun _ _ hm hk=>⟨let ⟨o,ho,x⟩:=hm.1; ⟨o,hk r (.inl rfl) o ho,x⟩,hk dc (.inr rfl) _ hm.2⟩
 notList:=by decide
 notTuple:=by decide
 hint:=fun _ _ _ _ hm hq=>PySem.W.kdl_hint_values hm.1.typeIs hq
 iter:=fun _ _ hh hm=>⟨_,_,(fun _ _ hq=>Jd hm.1 hm.2 h2 hq),FD hh _ dc (a9 (az hm.2)) oc es ep h2,⟨⟨_,a8 _ rfl,rfl,rfl⟩,ah _ hm.2⟩⟩
theorem Bt (dc:Addr) (hd:(dc == fh)=false):MeetsIn prog w (Builtin.«dict.values» ⟨[.ref dc],[]⟩) (fun _ R s=>s.TypeIs (.ref dc) "dict" /\
   R (.ok (.ret (.ref s.heap.objs.size))) { s with heap:=s.heap.push { cls:=.type "dict_values",data:=.fields #[.ref dc] } }):=
 .of_wp fun A R s ⟨hT,h⟩=>by
  refine aa ?_; unfold Builtin.Dict.noArgs;refine aa (jh hT (show wpAny _ _ (pure dc) _ _ s from ag (show wpAny _ _ (Builtin.Dict.showsAll dc >>= _) _ _ s from ?_)))
  unfold Builtin.Dict.showsAll; rw [if_neg (show ¬ _ from by rw [hd]; decide)]
  refine aa (ag (aa (ft (ag ⟨_,rfl,h⟩))))
end
structure TOk (bt:Bool) (t:SetTable):Prop where
 dum:t.dummies=#[]
 led:bt=false->t.led=true
 ris:t.plain=true->t.place.toList.Pairwise (· < ·)
section
variable {prog:Program} {w:World} {A:Around} {E:Value->Shared->Prop} {s:Shared} {a:Addr}
theorem Bu {vs:List Value} {ns:List Str} (h:StrsAre vs ns) (i:Nat) (v:Value) (hv:vs[i]?=some v):∃ t,v=Value.str (ns.getD i "") t:=by
 obtain ⟨y,t,e,hy⟩:=StrsAre.item h i v hv;exact ⟨t,by rw [e]; simp [fb,hy]⟩
end
end L2
namespace L2
open PySem PySem.Spec PyProof.Rows PySem.SeqAt PySem.W
def cN (b:Bool) (n i:Nat):Nat:=if b then n - 1 - i else i
def Dl (b:Bool) (n:Nat) (p:List Nat):List Nat:=katRev b (p.map (cN b n))
theorem kO {α:Type} (b:Bool) {l:List α} {d:α} {i:Nat} (hi:i < l.length):(katRev b l).getD i d=l.getD (cN b l.length i) d:=by
 cases b with
 | false=>rfl
 | true=>
  show l.reverse.getD i d=l.getD (l.length - 1 - i) d
  rw [fb,fb,List.getElem?_reverse hi]
theorem gJ {b:Bool} {n i:Nat} (h:i < n):cN b n i < n:=by
 unfold cN; split <;> omega
theorem FF {b:Bool} {n:Nat} {p:List Nat} (h:p.Perm (ba n)):(Dl b n p).Perm (ba n):=by
 cases b with
 | false=>
  have e:Dl false n p=p:=by
   show p.map (fun i=>cN false n i)=p
   have:(fun i=>cN false n i)=id:=by funext i; rfl
   rw [this,List.map_id]
  rw [e]; exact h
 | true=>
  have e:(ba n).map (cN true n)=(ba n).reverse:=by
   apply List.ext_getElem
   ·simp
   ·intro i h1 h2;simp [cN]
  show ((p.map (cN true n)).reverse).Perm _
  refine (List.reverse_perm _).trans ((h.map _).trans ?_);rw [e];exact List.reverse_perm _
theorem FG {b:Bool} {n:Nat} {p:List Nat} {lt:Nat->Nat->Bool} (h:p.Pairwise (fun i j=>lt (cN b n j) (cN b n i)=false)):(Dl b n p).Pairwise (fun i j=>(if b then lt i j else lt j i)=false):=by
 have h1:(p.map (cN b n)).Pairwise (fun i j=>lt j i=false):=df.mpr h;cases b with
 | false=>exact h1
 | true=>
  show ((p.map (cN true n)).reverse).Pairwise _
  rw [List.pairwise_reverse];exact h1
theorem Je {b:Bool} {vs:List Value} {p:List Nat} (h:∀ i∈p,i < vs.length):katRev b (p.map fun i=>(katRev b vs).getD i cx)=(Dl b vs.length p).map fun i=>vs.getD i cx:=by
 have e:(p.map fun i=>(katRev b vs).getD i cx)=(p.map (cN b vs.length)).map fun i=>vs.getD i cx:=by
  rw [cj];exact d0 fun i hi=>kO b (h i hi)
 rw [e];unfold Dl katRev;split
 ·rw [List.map_reverse]
 ·rfl
theorem FH {α:Type} (b:Bool) (l:List α):katRev b (katRev b l)=l:=by
 unfold katRev; split <;> simp
theorem range_getD (vs:List Value):((ba vs.length).map fun i=>vs.getD i cx)=vs:=by
 apply g7;intro i
 by_cases hi:i < vs.length
 ·simp [hi]
 ·simp [hi]
section
variable {prog:Program} {w:World} {A:Around} {E:Value->Shared->Prop} {s:Shared} {a kS:Addr} {b:Bool} {vs ks:List Value}
theorem S1 {st:SortSt} {e e1:Nat} {out:List Value} {P:PySem.Fin->Shared->Prop} (hout:(arrOf st).map (·.2)=out.toArray) (hz:out.length < 64) (hkz:ks.length < 64) (hf:failedOf st=none) (hka:kS≠a)
  (gk:s.heap.get? kS=some (seqObj "list" ks.toArray e)) (ga:s.heap.get? a=some (seqObj "list" #[] e1))
  (h:∀ (h':Heap) (c:Nat),(∀ x o,x≠a->x≠kS->s.heap.get? x=some o->h'.get? x=some o)->h'.get? a=some (seqObj "list" (katRev b out).toArray c)->(∃ o,h'.get? kS=some o)->P (.done (.ret .none)) { s with heap:=h' }):
  wpAny (model prog w) A (ksk_tail a b e1 (.ref kS) st) P E s:=by
 have w1:=d4 s.heap kS (cy fun _=>(#[]:Array Value));obtain ⟨ck,hck⟩:∃ ck,(s.heap.update kS (cy fun _=>(#[]:Array Value))).get? kS=some (seqObj "list" #[] ck):=⟨_,i6 gk fun _=>#[]⟩;have ga1:=(w1.2 a hka.symm).trans ga;have w2:=d4 (s.heap.update kS (cy fun _=>(#[]:Array Value))) a (cy fun _=>(katRev b out).toArray);obtain ⟨c2,hc2⟩:∃ c2,((s.heap.update kS (cy fun _=>(#[]:Array Value))).update a (cy fun _=>(katRev b out).toArray)).get? a=some (seqObj "list" (katRev b out).toArray c2):=⟨_,i6 ga1 fun _=>(katRev b out).toArray⟩;have hsz:(katRev b out).toArray.size=out.length:=by rw [ar,kat_len]
 unfold ksk_tail
 try dsimp only
 rw [hout,kat_outs];refine aa (jg gk rfl ?_ (by rw [ar,c6]; omega) (b9 _));refine aa (wpAny_letGo (aa (seqEpoch_at ga1 rfl ?_)));refine aa (jg ga1 rfl ?_ (b9 _) (c4 (Nat.le_of_eq hsz) (by rw [c6]; omega)));rw [hf];simp only [bne_self_eq_false,dt,if_false];exact ag (h _ c2 (fun x o h1 h2 q=>(w2.2 x h1).trans ((w1.2 x h2).trans q)) hc2 ⟨_,(w2.2 kS hka).trans hck⟩)
theorem Xv {e e1:Nat} {κ:SortKind} {P:PySem.Fin->Shared->Prop} (lt:Nat->Nat->Bool) (hl:ks.length=vs.length) (h64:vs.length < 64) (hka:kS≠a)
  (tr:∀ i j k,i < vs.length->j < vs.length->k < vs.length->lt j i=false->lt k j=false->lt k i=false) (as:∀ i j,i < vs.length->j < vs.length->lt i j=true->lt j i=false)
  (gk:s.heap.get? kS=some (seqObj "list" ks.toArray e)) (ga:s.heap.get? a=some (seqObj "list" #[] e1))
  (hk:2<=vs.length->∀ (Q:SortKind->Shared->Prop) E',Q κ s->wpAny (model prog w) A (keyKind' ks.toArray) Q E' s)
  (hlt:∀ i j,i < vs.length->j < vs.length->∀ Q:Bool->Shared->Prop,Q (lt i j) s->wpAny (model prog w) A (keyLt' κ (ks.getD i cx) (ks.getD j cx)) Q (fun _ _=>False) s)
  (h:∀ (p:List Nat) (h':Heap) (c:Nat),p.Perm (ba vs.length)->p.Pairwise (fun i j=>(if b then lt i j else lt j i)=false)->(∀ x o,x≠a->x≠kS->s.heap.get? x=some o->h'.get? x=some o)->
   h'.get? a=some (seqObj "list" (p.map fun i=>vs.getD i cx).toArray c)->(∃ o,h'.get? kS=some o)->P (.done (.ret .none)) { s with heap:=h' }):
  wpAny (model prog w) A (ksk_end a b vs.toArray e1 (.ref kS) ks.toArray) P E s:=by
 have skip:∀ t:Sem PySem.Fin,wpAny (model prog w) A t P E s->wpAny (model prog w) A (if b=true then (do let _ <- rule "list.sort.reverse"; t) else t) P E s:=fun t ht=>by
  split
  ·exact aa (jt ht)
  ·exact ht
 have hlr:(katRev b ks).length=(katRev b vs).length:=by rw [kat_len,kat_len,hl]
 unfold ksk_end
 try dsimp only
 refine skip _ ?_;rw [kat_pairs b hl]
 by_cases h2:vs.toArray.size < 2
 ·rw [if_pos h2,if_pos h2];rw [ar] at h2;refine aa (ag ?_);rw [StateT.run_pure];refine aa (ag ?_)
  try dsimp only
  refine S1 (st:=SortSt.mk' general' ((katRev b ks).toArray.zip (katRev b vs).toArray) #[] 7 none) (out:=katRev b vs) (ks:=ks) ?_ (by rw [kat_len]; exact h64) (by omega) rfl hka gk ga fun h' c k1 k2 k3=>?_
  ·show ((katRev b ks).toArray.zip (katRev b vs).toArray).map (·.2)=(katRev b vs).toArray
   apply Array.toList_inj.mp;rw [Array.toList_map,ksk_zip]
   show (List.zip _ _).map Prod.snd=_
   rw [List.map_snd_zip (by rw [hlr]; exact ai _)]
  ·rw [FH] at k2;refine h (ba vs.length) h' c (List.Perm.refl _) ?_ k1 (by rw [range_getD]; exact k2) k3;rw [ic];intro i j hi hj hij;simp only [jv] at hi hj;omega
 ·rw [if_neg h2,if_neg h2];rw [ar] at h2;refine aa (hk (by omega) _ _ ?_);have hkas:(kas_sort (katRev b vs).length).kasWp (kas_ask prog w A κ (katRev b ks)) (fun p s''=>p=evT (fun i j=>lt (cN b vs.length i) (cN b vs.length j)) (kas_sort vs.length)/\s''=s) s:=by
   rw [kat_len];refine vW (n:=vs.length) (lt:=fun i j=>lt (cN b vs.length i) (cN b vs.length j)) (fun i j C hi hj hC=>?_) (vV (by omega)) ⟨rfl,rfl⟩
   show wpAny (model prog w) A (keyLt' κ ((katRev b ks).getD i cx) ((katRev b ks).getD j cx)) C (fun _ _=>False) s
   rw [kO b (by omega),kO b (by omega),hl];exact hlt _ _ (gJ hi) (gJ hj) C hC
  refine aa (gx (kat_run (ks:=katRev b ks) (vs:=katRev b vs) (E:=E) (Q:=fun st' s'=>s'=s/\arrOf st'=(evT (fun i j=>lt (cN b vs.length i) (cN b vs.length j)) (kas_sort vs.length)).map (kas_item ((katRev b ks).toArray.zip (katRev b vs).toArray))/\failedOf st'=none)
   hlr (by rw [kat_len]; omega) (by rw [kat_len]; exact h64) (fun p st' s' _ a2 a3 a4=>⟨a4.2,by rw [a2,a4.1],a3⟩) hkas) ?_ fun _ _ x=>x)
  rintro ⟨⟨⟩,st'⟩ s' ⟨rfl,har,hf⟩
  try dsimp only
  obtain ⟨c1,c2⟩:=Di (n:=vs.length) (lt:=fun i j=>lt (cN b vs.length i) (cN b vs.length j)) (fun i j k hi hj hk=>tr _ _ _ (gJ hi) (gJ hj) (gJ hk)) (fun i j hi hj=>as _ _ (gJ hi) (gJ hj)) (by omega);have hin:∀ i∈(evT (fun i j=>lt (cN b vs.length i) (cN b vs.length j)) (kas_sort vs.length)).toList,i < vs.length:=fun i hi=>by simpa using c1.mem_iff.mp hi
  refine S1 (ks:=ks) (kat_snds hlr har) (by rw [ae,c1.length_eq,jv]; exact h64) (by omega) hf hka gk ga fun h' c k1 k2 k3=>?_;rw [Je hin] at k2;exact h _ h' c (FF c1) (FG c2) k1 k2 k3
theorem FI {f:Value} {n:Nat} {κ:SortKind} {P:PySem.Fin->Shared->Prop} (ho:s.heap.get? a=some (seqObj "list" vs.toArray n)) (h64:vs.length < 64) (J:Addr->Nat->List Value->Nat->Shared->Prop)
  (h0:∀ (kS e1:Nat) (h':Heap),(∀ x o,x≠a->s.heap.get? x=some o->h'.get? x=some o)->s.heap.objs.size<=kS->h'.get? a=some (seqObj "list" #[] e1)->h'.get? kS=some (seqObj "list" #[] 0)->J kS e1 [] 0 { s with heap:=h' })
  (hget:∀ kS e1 ks e s',J kS e1 ks e s'->kS≠a/\s'.heap.get? a=some (seqObj "list" #[] e1)/\s'.heap.get? kS=some (seqObj "list" ks.toArray e))
  (turn:∀ kS e1 ks e s' x,vs[ks.length]?=some x->J kS e1 ks e s'->wpAny (model prog w) A (call f [x]) (fun v s''=>s''.heap.get? kS=some (seqObj "list" ks.toArray e)/\∀ (h':Heap) e',ie kS s''.heap h'->h'.get? kS=some (seqObj "list" (ks++[v]).toArray e')->J kS e1 (ks++[v]) e' { s'' with heap:=h' }) (fun _ _=>False) s')
  (fin:∀ kS e1 ks e s',ks.length=vs.length->J kS e1 ks e s'->∃ lt:Nat->Nat->Bool,(∀ i j k,i < vs.length->j < vs.length->k < vs.length->lt j i=false->lt k j=false->lt k i=false)/\(∀ i j,i < vs.length->j < vs.length->lt i j=true->lt j i=false)/\
   (2<=vs.length->∀ (Q:SortKind->Shared->Prop) E',Q κ s'->wpAny (model prog w) A (keyKind' ks.toArray) Q E' s')/\
   (∀ i j,i < vs.length->j < vs.length->∀ Q:Bool->Shared->Prop,Q (lt i j) s'->wpAny (model prog w) A (keyLt' κ (ks.getD i cx) (ks.getD j cx)) Q (fun _ _=>False) s')/\
   ∀ (p:List Nat) (h':Heap) (c:Nat),p.Perm (ba vs.length)->p.Pairwise (fun i j=>(if b then lt i j else lt j i)=false)->(∀ x o,x≠a->x≠kS->s'.heap.get? x=some o->h'.get? x=some o)->
   h'.get? a=some (seqObj "list" (p.map fun i=>vs.getD i cx).toArray c)->(∃ o,h'.get? kS=some o)->P (.done (.ret .none)) { s' with heap:=h' }):
  wpAny (model prog w) A (ksk_tree a f b) P E s:=by
 have ha:a < s.heap.objs.size:=az ho;have w1:=d4 s.heap a (cy fun _=>(#[]:Array Value));obtain ⟨e1,ho1⟩:∃ e1,(s.heap.update a (cy fun _=>(#[]:Array Value))).get? a=some (seqObj "list" #[] e1):=⟨_,i6 ho fun _=>#[]⟩;unfold ksk_tree;refine aa (listItems_at ho rfl (aa (jg ho rfl ?_ (by rw [ar,c6]; omega) (b9 _))));refine aa (seqEpoch_at ho1 rfl (aa (wpAny_newTuple ?_ (by show vs.length<=_; rw [c6]; omega))));refine aa (wpAny_newList (dg ?_) (b9 _));have hk1:((s.heap.update a (cy fun _=>(#[]:Array Value))).push (seqObj "tuple" vs.toArray 0)).objs.size=s.heap.objs.size+1:=by rw [size_push',l8]
 have J0:=h0 ((s.heap.update a (cy fun _=>(#[]:Array Value))).push (seqObj "tuple" vs.toArray 0)).objs.size e1 (((s.heap.update a (cy fun _=>(#[]:Array Value))).push (seqObj "tuple" vs.toArray 0)).push (seqObj "list" #[] 0))
  (fun x o hx q=>ah _ (ah _ ((w1.2 x hx).trans q))) (by rw [hk1]; exact Nat.le_succ _) (ah _ (ah _ ho1)) (a8 _ rfl)
 show wpAny (model prog w) A (ksk_rest a f b vs.toArray e1 (.ref ((s.heap.update a (cy fun _=>(#[]:Array Value))).push (seqObj "tuple" vs.toArray 0)).objs.size)) P E { s with heap:=((s.heap.update a (cy fun _=>(#[]:Array Value))).push (seqObj "tuple" vs.toArray 0)).push (seqObj "list" #[] 0) }
 generalize ((s.heap.update a (cy fun _=>(#[]:Array Value))).push (seqObj "tuple" vs.toArray 0)).objs.size=kS at J0
 revert J0
 generalize ({ s with heap:=((s.heap.update a (cy fun _=>(#[]:Array Value))).push (seqObj "tuple" vs.toArray 0)).push (seqObj "list" #[] 0) }:Shared)=s0;intro J0;unfold ksk_rest;refine aa (jt ?_)
 first
  | rw [List.forIn_toArray]
  | (rw [<- Array.forIn_toList]; simp only [List.toList_toArray])
 refine aa (ksk_fold (fun i s'=>∃ ks e,ks.length=i/\J kS e1 ks e s') vs 0 s0 ⟨[],0,rfl,J0⟩ ?step ?done)
 case step=>
  rintro j x s' hx ⟨ks,e,hl,hJ⟩;have hj:j < vs.length:=(ab.mp hx).1;have hl':ks.length=j:=by omega
  refine aa (wpAny_attempt (gx (turn kS e1 ks e s' x (by rw [hl']; exact hx) hJ) (fun v s'' q=>?_) fun _ _ z=>z.elim));obtain ⟨gk,nxt⟩:=q
  try dsimp only
  have w2:=d4 s''.heap kS (cy (·.push v));obtain ⟨c2,hc2⟩:∃ c2,(s''.heap.update kS (cy (·.push v))).get? kS=some (seqObj "list" (ks.toArray.push v) c2):=⟨_,i6 gk (·.push v)⟩;refine aa (jg gk rfl ?_ (by rw [ar,c6]; omega) (c4 (Nat.le_of_eq (Array.size_push ..)) (by rw [ar,c6]; omega)));refine ag ⟨rfl,ks++[v],c2,by simp; omega,nxt _ c2 w2 ?_⟩;rw [hc2];simp
 case done=>
  rintro s' ⟨ks,e,hl,hJ⟩;have hl':ks.length=vs.length:=by omega
  obtain ⟨hka,ga,gk⟩:=hget kS e1 ks e s' hJ;obtain ⟨lt,tr,as,hk,hlt,h⟩:=fin kS e1 ks e s' hl' hJ
  try dsimp only
  refine aa (listItems_at gk rfl ?_);exact Xv (κ:=κ) lt hl' h64 hka tr as gk ga hk hlt h
end
end L2
namespace L2
open PySem PySem.Spec PyProof.Rows PySem.SeqAt
inductive PV where
 | non | bl (b:Bool) | int (i:Int) | str (x:Str) | tup (xs:List PV) | ref (n:Nat) | ty (n:String) | fl (xs:List PV)
mutual
def PV.beq:PV->PV->Bool
 | .non,.non=>true
 | .bl a,.bl b=>a == b
 | .int a,.int b=>a == b
 | .str a,.str b=>a == b
 | .tup a,.tup b=>PV.beqs a b
 | .ref a,.ref b=>a == b
 | .ty a,.ty b=>a == b
 | .fl a,.fl b=>PV.beqs a b
 | _,_=>false
def PV.beqs:List PV->List PV->Bool
 | [],[]=>true
 | x :: xs,y :: ys=>PV.beq x y && PV.beqs xs ys
 | _,_=>false
end
mutual
theorem PV.beq_self:∀ x:PV,PV.beq x x=true
 | .non=>rfl
 | .bl a=>by simp [PV.beq]
 | .int a=>by simp [PV.beq]
 | .str a=>by simp [PV.beq]
 | .tup a=>by simp only [PV.beq]; exact PV.beqs_self a
 | .ref a=>by simp [PV.beq]
 | .ty a=>by simp [PV.beq]
 | .fl a=>by simp only [PV.beq]; exact PV.beqs_self a
theorem PV.beqs_self:∀ x:List PV,PV.beqs x x=true
 | []=>rfl
 | x :: xs=>by simp only [PV.beqs,PV.beq_self x,PV.beqs_self xs,Bool.and_self]
end
mutual
theorem PV.beq_eq:∀ {x y:PV},PV.beq x y=true->x=y
 | .non,y,h=>by cases y <;> first | rfl | (simp [PV.beq] at h)
 | .bl a,y,h=>by cases y <;> first | (simp [PV.beq] at h; rw [h]) | (simp [PV.beq] at h)
 | .int a,y,h=>by cases y <;> first | (simp [PV.beq] at h; rw [h]) | (simp [PV.beq] at h)
 | .str a,y,h=>by cases y <;> first | (simp [PV.beq] at h; rw [h]) | (simp [PV.beq] at h)
 | .tup a,y,h=>by
  cases y with
  | tup b=>simp only [PV.beq] at h; rw [PV.beqs_eq h]
  | _=>simp [PV.beq] at h
 | .ref a,y,h=>by cases y <;> first | (simp [PV.beq] at h; rw [h]) | (simp [PV.beq] at h)
 | .ty a,y,h=>by cases y <;> first | (simp [PV.beq] at h; rw [h]) | (simp [PV.beq] at h)
 | .fl a,y,h=>by
  cases y with
  | fl b=>simp only [PV.beq] at h; rw [PV.beqs_eq h]
  | _=>simp [PV.beq] at h
theorem PV.beqs_eq:∀ {x y:List PV},PV.beqs x y=true->x=y
 | [],y,h=>by cases y <;> first | rfl | (simp [PV.beqs] at h)
 | x :: xs,y,h=>by
  cases y with
  | nil=>simp [PV.beqs] at h
  | cons y ys=>
   simp only [PV.beqs,cq] at h;rw [PV.beq_eq h.1,PV.beqs_eq h.2]
end
instance:DecidableEq PV:=fun x y=>match h:PV.beq x y with
 | true=>isTrue (PV.beq_eq h)
 | false=>isFalse fun e=>by rw [e,PV.beq_self] at h; cases h
def PV.ky:Nat->PV->Bool
 | _,.int _=>true
 | _,.str _=>true
 | n+1,.tup xs=>xs.all (PV.ky n)
 | _,_=>false
section
variable (w:World)
mutual
def hsh:PV->Int
 | .int i=>Sh w (.inl i)
 | .str x=>Sh w (.inr x)
 | .tup xs=>reduceHash (d6 (uP xs))
 | _=>0
def uP:List PV->List Int
 | []=>[]
 | x :: xs=>hsh x :: uP xs
end
end
mutual
def drw:PV->Nat
 | .tup xs=>Dm xs+1
 | _=>1
def Dm:List PV->Nat
 | []=>0
 | x :: xs=>drw x+Dm xs
end
mutual
/-- the raw value is the key -/
def HR (h:Heap):PV->Value->Prop
 | .int i,v=>∃ t,v=.int i t
 | .str x,v=>∃ t,v=.str x t
 | .tup ps,v=>∃ a its,v=.ref a/\IsTup h a its.toArray/\HRs h ps its
 | _,_=>False
def HRs (h:Heap):List PV->List Value->Prop
 | [],[]=>True
 | p :: ps,v :: vs=>HR h p v/\HRs h ps vs
 | [],_ :: _=>False
 | _ :: _,[]=>False
end
theorem HRs.length {h:Heap}:∀ {ps:List PV} {vs:List Value},HRs h ps vs->ps.length=vs.length
 | [],[],_=>rfl
 | _ :: _,_ :: _,r=>congrArg (·+1) (HRs.length r.2)
 | [],_ :: _,r=>r.elim
 | _ :: _,[],r=>r.elim
theorem HRs.at {h:Heap}:∀ {ps:List PV} {vs:List Value} {j:Nat} {p:PV},HRs h ps vs->ps[j]?=some p->∃ v,vs[j]?=some v/\HR h p v
 | [],[],_,_,_,e=>by simp at e
 | q :: _,v :: _,0,p,r,e=>by
  have:q=p:=by simpa using e
  subst this;exact ⟨v,rfl,r.1⟩
 | _ :: ps,_ :: vs,j+1,p,r,e=>by
  obtain ⟨v,h1,h2⟩:=HRs.at (ps:=ps) (vs:=vs) (j:=j) (p:=p) r.2 (by simpa using e)
  exact ⟨v,by simpa using h1,h2⟩
 | [],_ :: _,_,_,r,_=>r.elim
 | _ :: _,[],_,_,r,_=>r.elim
theorem Jf {h:Heap} {a:Addr} {x y:Array Value} (p:IsTup h a x) (q:IsTup h a y):x=y:=by
 obtain ⟨o,ho,_,n,hd⟩:=p;obtain ⟨o',ho',_,n',hd'⟩:=q;obtain rfl:o=o':=bh (ho.symm.trans ho');rw [hd] at hd';injection hd'
mutual
theorem HR.one {h:Heap}:∀ {p q:PV} {v:Value},HR h p v->HR h q v->p=q
 | .int i,q,v,r,r'=>by
  obtain ⟨t,rfl⟩:=r;cases q with
  | int j=>obtain ⟨t',e⟩:=r'; injection e with e; rw [e]
  | str j=>obtain ⟨t',e⟩:=r'; cases e
  | tup j=>obtain ⟨_,_,e,_⟩:=r'; cases e
  | _=>exact r'.elim
 | .str i,q,v,r,r'=>by
  obtain ⟨t,rfl⟩:=r;cases q with
  | int j=>obtain ⟨t',e⟩:=r'; cases e
  | str j=>obtain ⟨t',e⟩:=r'; injection e with e; rw [e]
  | tup j=>obtain ⟨_,_,e,_⟩:=r'; cases e
  | _=>exact r'.elim
 | .tup ps,q,v,r,r'=>by
  obtain ⟨a,its,rfl,p,rs⟩:=r;cases q with
  | int j=>obtain ⟨t',e⟩:=r'; cases e
  | str j=>obtain ⟨t',e⟩:=r'; cases e
  | tup qs=>
   obtain ⟨b,its',e,p',rs'⟩:=r';cases e
   have:its=its':=by simpa using congrArg Array.toList (Jf p p')
   subst this;rw [HRs.one rs rs']
  | _=>exact r'.elim
 | .non,_,_,r,_=>r.elim
 | .bl _,_,_,r,_=>r.elim
 | .ref _,_,_,r,_=>r.elim
 | .ty _,_,_,r,_=>r.elim
 | .fl _,_,_,r,_=>r.elim
theorem HRs.one {h:Heap}:∀ {ps qs:List PV} {vs:List Value},HRs h ps vs->HRs h qs vs->ps=qs
 | [],[],[],_,_=>rfl
 | p :: ps,q :: qs,v :: vs,r,r'=>by rw [HR.one r.1 r'.1,HRs.one r.2 r'.2]
 | [],_ :: _,[],_,r=>r.elim
 | [],_,_ :: _,r,_=>r.elim
 | _ :: _,_,[],r,_=>r.elim
 | _ :: _,[],_ :: _,_,r=>r.elim
end
theorem FJ {h h':Heap} {a d:Addr} {o:Obj} {es ep} {x:Array Value} (p:IsTup h a x) (ho:h.get? d=some o) (hd:o.data=.dict es ep) (hs:ie d h h'):IsTup h' a x:=by
 obtain ⟨q,hq,hc,n,hdt⟩:=p;have ne:a≠d:=by
  rintro rfl;obtain rfl:q=o:=bh (hq.symm.trans ho);rw [hd] at hdt;cases hdt
 exact ⟨q,(hs.2 a ne).trans hq,hc,n,hdt⟩
mutual
theorem HR.keep {h h':Heap} (k:∀ a x,IsTup h a x->IsTup h' a x):∀ {p:PV} {v:Value},HR h p v->HR h' p v
 | .int i,v,r=>r
 | .str i,v,r=>r
 | .tup ps,v,⟨a,its,e,p,rs⟩=>⟨a,its,e,k _ _ p,HRs.keep k rs⟩
 | .non,_,r=>r.elim
 | .bl _,_,r=>r.elim
 | .ref _,_,r=>r.elim
 | .ty _,_,r=>r.elim
 | .fl _,_,r=>r.elim
theorem HRs.keep {h h':Heap} (k:∀ a x,IsTup h a x->IsTup h' a x):∀ {ps:List PV} {vs:List Value},HRs h ps vs->HRs h' ps vs
 | [],[],_=>trivial
 | _ :: _,_ :: _,r=>⟨HR.keep k r.1,HRs.keep k r.2⟩
 | [],_ :: _,r=>r.elim
 | _ :: _,[],r=>r.elim
end
section
variable {prog:Program} {w:World}
theorem LD:∀ (n:Nat) {A:Around} {E:Value->Shared->Prop} {s:Shared} {p:PV} {v:Value} {Q:Int->Shared->Prop},p.ky n=true->A.units+n < cLine->HR s.heap p v->Q (hsh w p) { s with toks:=s.toks+drw p }->
  wpAny (model prog w) A (pyHash v) Q E s:=by
 intro n
 induction n with
 | zero=>
  intro A E s p v Q hk hu r h;cases p with
  | int i=>obtain ⟨t,rfl⟩:=r; exact wpAny_pyHash_int h
  | str i=>obtain ⟨t,rfl⟩:=r; exact wpAny_pyHash_str h
  | _=>cases hk
 | succ n ih=>
  intro A E s p v Q hk hu r h;cases p with
  | int i=>obtain ⟨t,rfl⟩:=r; exact wpAny_pyHash_int h
  | str i=>obtain ⟨t,rfl⟩:=r; exact wpAny_pyHash_str h
  | tup ps=>
   obtain ⟨a,its,rfl,⟨o,ho,hc,m,hd⟩,rs⟩:=r;have hk':∀ q∈ps,q.ky n=true:=cw.mp hk;have hT:s.TypeIs (.ref a) "tuple" := ⟨o,ho,hc⟩;unfold pyHash; unfold pyHashByItsType;refine aa (wpAny_cRoomFor_or (.inr (show A.units < cLine by omega)) (aa (wpAny_specialOf hT F.slot_tuple_hash.lookup ?_)))
   show wpAny _ _ (if ((some (Value.builtin "tuple.__hash__"):Option Value) == some cx)=true then _ else _) Q E s
   rw [if_neg (show ¬ _ from by rw [beq_builtin_none]; decide)]
   refine aa (wpAny_specialOf hT F.slot_tuple_hash.lookup (show wpAny _ _ (callSpecialIfBoundUnlessNone? (.ref a) "__hash__" _ >>= _) Q E s from ?_))
   refine aa (wpAny_callSpecialIfBoundUnlessNone?_slot hT F.slot_tuple_hash (ja F.slot_tuple_hash hT F.entry_tuple_hash (show wpAny _ _ (k9 (.ref a) >>= _) _ _ s from ?_) (F.args_tuple_hash_1 _)))
   refine aa (wpAny_tupleItemsOf ho hd (aa ?_)); rw [<- Array.forIn_toList];refine wpAny_forIn_list _ (fun rest (b:Array Int) s'=>∃ left,HRs s.heap left rest/\(∀ q∈left,q.ky n=true)/\b.toList++uP w left=uP w ps/\s'.heap=s.heap/\s'={ s with toks:=s'.toks }/\s'.toks+Dm left=s.toks+Dm ps) _ ?turn ?stop _ _ ⟨ps,rs,hk',rfl,rfl,rfl,rfl⟩
   case turn=>
    rintro x rest b s' ⟨left,rl,kl,eb,eh,es,et⟩;cases left with
    | nil=>exact rl.elim
    | cons q left=>
     have r1:HR s'.heap q x:=by rw [eh]; exact rl.1
     refine aa (ih (kl q aj) (show A.units+1+n < cLine by omega) r1 (ag ?_));refine ⟨left,rl.2,fun z hz=>kl z (ao _ hz),?_,eh,?_,?_⟩
     ·rw [<- eb]; simp [uP]
     ·rw [es]
     ·rw [<- et]
      show s'.toks+drw q+Dm left=s'.toks+(drw q+Dm left)
      omega
   case stop=>
    rintro b s' ⟨left,rl,kl,eb,eh,es,et⟩;cases left with
    | cons q left=>exact rl.elim
    | nil=>
     have eb':b.toList=uP w ps:=by rw [<- eb]; simp [uP]
     have et':s'.toks=s.toks+Dm ps:=et
     show wpAny _ _ (retInt (d6 b.toList)) _ _ _
     rw [eb',es];refine wpAny_ret_mkInt ?_
     show wpAny _ _ (if (decide (-(2:Int) ^ 63<=d6 (uP w ps)) && decide (d6 (uP w ps) < 2 ^ 63))=true then _ else _) Q E _
     have h':Q (reduceHash (d6 (uP w ps))) { s with toks:=s.toks+(Dm ps+1) }:=h;unfold reduceHash at h';rw [et']
     by_cases hr:(decide (-(2:Int) ^ 63<=d6 (uP w ps)) && decide (d6 (uP w ps) < 2 ^ 63))=true
     ·rw [if_pos hr] at h' ⊢;exact ag (by simpa [Nat.add_assoc] using h')
     ·rw [if_neg hr] at h' ⊢;exact aa (jt (ag (by simpa [Nat.add_assoc] using h')))
  | _=>cases hk
theorem Tr:∀ (n:Nat) {A:Around} {s:Shared} {p q:PV} {v u:Value},p.ky n=true->q.ky n=true->A.units+n < cLine->HR s.heap p v->HR s.heap q u->RcAt A s v u (decide (p=q)):=by
 intro n
 induction n with
 | zero=>
  intro A s p q v u hp hq hu r r';cases p with
  | int i=>
   obtain ⟨t,rfl⟩:=r;cases q with
   | int j=>obtain ⟨t',rfl⟩:=r'; have:=RcAt.int_int (A:=A) (s:=s) i t j t'; rwa [show decide (PV.int i=PV.int j)=(i == j) by simp [k4]]
   | str j=>obtain ⟨t',rfl⟩:=r'; exact RcAt.int_str i t j t'
   | _=>cases hq
  | str i=>
   obtain ⟨t,rfl⟩:=r;cases q with
   | int j=>obtain ⟨t',rfl⟩:=r'; exact RcAt.str_int i t j t'
   | str j=>obtain ⟨t',rfl⟩:=r'; have:=RcAt.str_str (A:=A) (s:=s) i t j t'; rwa [show decide (PV.str i=PV.str j)=(i == j) by simp [k4]]
   | _=>cases hq
  | _=>cases hp
 | succ n ih=>
  intro A s p q v u hp hq hu r r';cases p with
  | int i=>
   obtain ⟨t,rfl⟩:=r;cases q with
   | int j=>obtain ⟨t',rfl⟩:=r'; have:=RcAt.int_int (A:=A) (s:=s) i t j t'; rwa [show decide (PV.int i=PV.int j)=(i == j) by simp [k4]]
   | str j=>obtain ⟨t',rfl⟩:=r'; exact RcAt.int_str i t j t'
   | tup js=>obtain ⟨b,its,rfl,p',_⟩:=r'; exact RcAt.int_tuple i t p' (by omega)
   | _=>cases hq
  | str i=>
   obtain ⟨t,rfl⟩:=r;cases q with
   | int j=>obtain ⟨t',rfl⟩:=r'; exact RcAt.str_int i t j t'
   | str j=>obtain ⟨t',rfl⟩:=r'; have:=RcAt.str_str (A:=A) (s:=s) i t j t'; rwa [show decide (PV.str i=PV.str j)=(i == j) by simp [k4]]
   | tup js=>obtain ⟨b,its,rfl,p',_⟩:=r'; exact RcAt.str_tuple i t p' (by omega)
   | _=>cases hq
  | tup ps=>
   obtain ⟨a,its,rfl,ta,rs⟩:=r;cases q with
   | int j=>obtain ⟨t',rfl⟩:=r'; exact RcAt.tuple_int j t' ta (by omega)
   | str j=>obtain ⟨t',rfl⟩:=r'; exact RcAt.tuple_str j t' ta (by omega)
   | tup qs=>
    obtain ⟨b,its',rfl,tb,rs'⟩:=r';have kp:∀ z∈ps,z.ky n=true:=cw.mp hp;have kq:∀ z∈qs,z.ky n=true:=cw.mp hq;have l1:=rs.length;have l2:=rs'.length;have key:=RcAt.tuples (A:=A) (e:=fun j=>match ps[j]?,qs[j]? with | some x,some y=>decide (x=y) | _,_=>false) ta tb (by omega) (fun j h1 h2=>by
     have h1':j < ps.length:=by simp at h1; omega
     have h2':j < qs.length:=by simp at h2; omega
     have g1:ps[j]?=some ps[j]:=by simp [h1']
     have g2:qs[j]?=some qs[j]:=by simp [h2']
     obtain ⟨xu,hxu,hru⟩:=rs.at g1;obtain ⟨yu,hyu,hru'⟩:=rs'.at g2;have e1:its.toArray[j]=xu:=by simpa using (ab.mp hxu).2
     have e2:its'.toArray[j]=yu:=by simpa using (ab.mp hyu).2
     rw [e1,e2];simp only [g1,g2];refine eJ (ih (kp _ (fm h1')) (kq _ (fm h2')) (show A.units+1+n < cLine by omega) hru hru') (fun ev=>?_) (fun f t e=>?_)
     ·subst ev;rw [HR.one hru hru'];exact decide_eq_true rfl
     ·subst e;generalize ps[j]=z at hru;cases z with
      | int i=>obtain ⟨_,e⟩:=hru; cases e
      | str i=>obtain ⟨_,e⟩:=hru; cases e
      | tup i=>obtain ⟨_,_,e,_⟩:=hru; cases e
      | _=>exact hru.elim)
    have sz:((ba (min its.toArray.size its'.toArray.size)).all (fun j=>match ps[j]?,qs[j]? with | some x,some y=>decide (x=y) | _,_=>false) && its.toArray.size == its'.toArray.size)=decide (PV.tup ps=PV.tup qs):=by
     have a1:its.toArray.size=ps.length:=by simp; omega
     have a2:its'.toArray.size=qs.length:=by simp; omega
     rw [a1,a2,ij];simp only [cq,cw,ia,beq_iff_eq,decide_eq_true_eq,PV.tup.injEq];constructor
     ·rintro ⟨hall,hlen⟩;apply List.ext_getElem hlen;intro i hi hi';have:=hall i (by omega);simpa [hi,hi'] using this
     ·rintro rfl;refine ⟨fun x hx=>?_,rfl⟩;have:x < ps.length:=by omega
      simp [this]
    rw [<- sz];exact key
   | _=>cases hq
  | _=>cases hp
theorem HR.noflt {h:Heap} {p:PV} {v:Value} (r:HR h p v):∀ f t,v≠.float f t:=fun f t e=>by
 subst e;cases p with
 | int i=>obtain ⟨_,e⟩:=r; cases e
 | str i=>obtain ⟨_,e⟩:=r; cases e
 | tup i=>obtain ⟨_,_,e,_⟩:=r; cases e
 | _=>exact r.elim
theorem Ts {n:Nat} {A:Around} {s:Shared} {p q:PV} {v u:Value} (hp:p.ky n=true) (hq:q.ky n=true) (hu:A.units+n < cLine) (r:HR s.heap p v) (r':HR s.heap q u):EqAt A s v u (decide (p=q)):=
 eJ (Tr n hp hq hu r r') (fun ev=>by subst ev; rw [HR.one r r']; exact decide_eq_true rfl) r.noflt
theorem Jg:∀ (n m:Nat) {A:Around} {E:Value->Shared->Prop} {s:Shared} {p:PV} {v:Value} {Q:Bool->Shared->Prop},p.ky n=true->n<=m->HR s.heap p v->Q true s->wpAny (model prog w) A (eqIsQuiet m v) Q E s:=by
 intro n
 induction n with
 | zero=>
  intro m A E s p v Q hk hm r h;cases p with
  | int i=>obtain ⟨t,rfl⟩:=r; rw [eqIsQuiet_byValue _ rfl]; exact ag h
  | str i=>obtain ⟨t,rfl⟩:=r; rw [eqIsQuiet_byValue _ rfl]; exact ag h
  | _=>cases hk
 | succ n ih=>
  intro m A E s p v Q hk hm r h;cases p with
  | int i=>obtain ⟨t,rfl⟩:=r; rw [eqIsQuiet_byValue _ rfl]; exact ag h
  | str i=>obtain ⟨t,rfl⟩:=r; rw [eqIsQuiet_byValue _ rfl]; exact ag h
  | tup ps=>
   obtain ⟨a,its,rfl,⟨o,ho,hc,m',hd⟩,rs⟩:=r;have hk':∀ q∈ps,q.ky n=true:=cw.mp hk;have hT:s.TypeIs (.ref a) "tuple" := ⟨o,ho,hc⟩;obtain ⟨m,rfl⟩:∃ j,m=j+1:=⟨m - 1,by omega⟩;unfold eqIsQuiet;refine aa (wpAny_specialOf hT F.slot_tuple_eq.lookup (show wpAny _ _ (isInstance (.ref a) (.type "tuple") >>= _) _ _ s from ?_))
   refine aa (wpAny_isInstance hT isSubtype_tuple_tuple ?_); simp only [Bool.not_true,dt,if_false];refine aa (wpAny_seqItems ho hd (aa (show wpAny _ _ (forIn its.toArray _ _) _ _ s from ?_))); rw [<- Array.forIn_toList]
   refine wpAny_forIn_list _ (fun rest r s'=>r.1=none/\s'=s/\∃ left,HRs s.heap left rest/\∀ q∈left,q.ky n=true) _ ?_ ?_ _ _ ⟨rfl,rfl,ps,rs,hk'⟩
   ·rintro v rest r s' ⟨hr,rfl,left,rl,kl⟩;cases left with
    | nil=>exact rl.elim
    | cons q left=>
     refine aa (ih m (kl q aj) (by omega) rl.1 ?_); simp only [Bool.not_true,dt,if_false];exact ag ⟨rfl,rfl,left,rl.2,fun z hz=>kl z (ao _ hz)⟩
   ·rintro ⟨r1,r2⟩ s' ⟨hr,rfl,_⟩; simp only at hr; subst hr;exact ag h
  | _=>cases hk
def kQ (prog:Program) (w:World):HeapKind prog w PV where
 is:=fun h p a=>p.ky 6=true/\HR h p (.ref a)
 hash:=hsh w
 draws:=drw
 room:=fun A=>A.units+6 < cLine
 inj:=fun x y=>HR.one x.2 y.2
 keeps:=fun x ho hd hs=>⟨x.1,HR.keep (fun a it p=>FJ p ho hd hs) x.2⟩
 pyHash:=fun hu x h=>LD 6 x.1 hu x.2 h
 eqBool:=fun hu x y h=>Ts x.1 y.1 hu x.2 y.2 _ _ _ _ h
 quiet:=fun x h=>Jg 6 8 x.1 (by omega) x.2 h
end
def dDO (w:World) (a:Addr) (ks:List (PV×Addr×V)):HO:=.ext fun h=>ks.length<=aw/\(a == fh)=false/\∃ xs:List (PV×Addr×Value),
 Paired (fun (p:PV×Addr×V) (q:PV×Addr×Value)=>p.1=q.1/\p.2.1=q.2.1/\RelV p.2.2 q.2.2) ks xs/\
 ∃ o es ep,h.get? a=some o/\o.ExactDict/\o.data=.dict es ep/\es.toList=xs.map (fun x=>(⟨hsh w x.1,.ref x.2.1,x.2.2⟩:DictEntry))/\(xs.map (·.1)).Nodup
def S2 (kd:Nat) (v d:Addr):HO:=.ext fun h=>match kd with
 | 0=>h.IsItemsView v d
 | 1=>h.IsValuesView v d
 | _=>∃ o,h.get? v=some o/\o.cls=.type "dict_keys" /\ o.data=.fields #[.ref d]
end L2
namespace L2
open PySem PySem.Spec PyProof.Rows
inductive MO where
 | lst (xs:List PV)
 | dK (kvs:List (Key×PV))
 | ins (C:Str) (fs:List (Str×PV))
 | dD (kvs:List (PV×PV))
 | vw (kd d:Nat)
 | fz (o:MO)
abbrev PH:=List MO
abbrev Ev:=List (Option PV)
structure PX where
 cls:Str
 fs:List (Str×PV)
inductive Rs (α:Type) where
 | ok (a:α) (h:PH)
 | exc (x:PX) (h:PH)
 | bad
inductive Fl where
 | nx (δ:Ev) (h:PH)
 | rt (p:PV) (h:PH)
 | bk (δ:Ev) (h:PH)
 | ct (δ:Ev) (h:PH)
 | exc (x:PX) (h:PH)
 | bad
abbrev Me:=Ev->PH->Rs PV
abbrev Ms:=Ev->PH->Fl
abbrev Fn:=List PV->PH->Rs PV
def Rs.bind {α β:Type} (r:Rs α) (f:α->PH->Rs β):Rs β:=match r with
 | .ok a h=>f a h
 | .exc x h=>.exc x h
 | .bad=>.bad
@[simp] theorem Rs.bind_ok {α β:Type} (a:α) (h:PH) (f:α->PH->Rs β):(Rs.ok a h).bind f=f a h:=rfl
@[simp] theorem Rs.bind_exc {α β:Type} (x:PX) (h:PH) (f:α->PH->Rs β):(Rs.exc x h:Rs α).bind f=.exc x h:=rfl
@[simp] theorem Rs.bind_bad {α β:Type} (f:α->PH->Rs β):(Rs.bad:Rs α).bind f=.bad:=rfl
structure MC where
 K:af
 cl:Str->Option Addr
 bs:List Str
 ex:List Addr->Hp->PX->Prop
 w:World
def SqF (K:af) (H:Hp) (a:Addr) (xs:List V):Prop:=
 (∃ o,H a=some (.frz o (.lst xs)))\/
  ∃ (o:Obj) (its:Array Value) (n:Nat),K.lookup a=some o/\o.cls=.type "list" /\ o.dict=none/\o.data=.seq its n/\its.size<=aw/\aM xs its.toList
theorem SqF.sq {K:af} {H:Hp} {a:Addr} {xs:List V} (h:SqF K H a xs):SqL K H a xs:=by
 rcases h with ⟨o,h⟩ | h
 ·exact .inl (.inr ⟨o,h⟩)
 ·exact .inr h
def Kp (H H':Hp):Prop:=jM H H'/\∀ a o u,H a=some (.frz o u)->H' a=some (.frz o u)
theorem Kp.refl (H:Hp):Kp H H:=⟨jM.refl H,fun _ _ _ h=>h⟩
theorem Kp.trans {H H1 H2:Hp} (a:Kp H H1) (b:Kp H1 H2):Kp H H2:=⟨a.1.trans b.1,fun c o u h=>b.2 c o u (a.2 c o u h)⟩
theorem Kp.same {H H':Hp} (s:D7 H H'):Kp H H':=⟨jM.same s,fun _ _ _ h=>s _ _ h⟩
theorem Kp.new {H:Hp} {a:Addr} {o:HO} (h:H a=none):Kp H (upd H a o):=Kp.same (D7.upd h)
theorem Kp.upd {H:Hp} {p:Addr} {o:HO} (h:Df (H p)):Kp H (upd H p o):=⟨jM.upd h,fun a ob u q=>by
 have ne:a≠p:=by
  rintro rfl;rw [q] at h; exact h
 rw [bF ne]; exact q⟩
theorem Kp.lst {H:Hp} {p:Addr} {o:HO} {xs:List V} (h:H p=some (.lst xs)):Kp H (L2.upd H p o):=Kp.upd (by rw [h]; trivial)
theorem Kp.dK {H:Hp} {p:Addr} {o:HO} {xs:List (Key×V)} (h:H p=some (.dK xs)):Kp H (L2.upd H p o):=Kp.upd (by rw [h]; trivial)
theorem Kp.sq {K:af} {H H':Hp} {a:Addr} {xs:List V} (t:Kp H H') (h:SqT K H a xs):SqT K H' a xs:=t.1.sq h
theorem Kp.sf {K:af} {H H':Hp} {a:Addr} {xs:List V} (t:Kp H H') (h:SqF K H a xs):SqF K H' a xs:=by
 rcases h with ⟨o,h⟩ | h
 ·exact .inl ⟨o,t.2 _ _ _ h⟩
 ·exact .inr h
section
variable (C:MC) (φ:List Addr) (H:Hp)
mutual
def RV:PV->V->Prop
 | .non,v=>v=.non
 | .bl b,v=>v=.bl b
 | .int i,v=>v=.int i
 | .str x,v=>v=.str x
 | .ty n,v=>v=.ty n
 | .tup ps,v=>∃ a vs,v=.ref a/\SqT C.K H a vs/\RVs ps vs
 | .ref n,v=>∃ a,v=.ref a/\φ[n]?=some a
 | .fl ps,v=>∃ a vs,v=.ref a/\SqF C.K H a vs/\RVs ps vs
def RVs:List PV->List V->Prop
 | [],[]=>True
 | p :: ps,v :: vs=>RV p v/\RVs ps vs
 | [],_ :: _=>False
 | _ :: _,[]=>False
end
def RKv {κ:Type}:List (κ×PV)->List (κ×V)->Prop:=Paired fun p q=>p.1=q.1/\RV C φ H p.2 q.2
def RKd:List (PV×PV)->List (PV×Addr×V)->Prop:=Paired fun p q=>p.1=q.1/\p.1.ky 6=true/\RV C φ H p.1 (.ref q.2.1)/\RV C φ H p.2 q.2.2
def RO (a:Addr):MO->Prop
 | .lst ps=>∃ vs,H a=some (.lst vs)/\RVs C φ H ps vs
 | .dK kvs=>∃ ks,H a=some (.dK ks)/\RKv C φ H kvs ks
 | .ins n fs=>∃ c dx ks,C.cl n=some c/\H a=some (.ins c dx ks)/\RKv C φ H fs ks
 | .dD kvs=>∃ ks,H a=some (dDO C.w a ks)/\RKd C φ H kvs ks
 | .vw kd d=>∃ b,φ[d]?=some b/\H a=some (S2 kd a b)
 | .fz (.dK kvs)=>∃ ob ks,H a=some (.frz ob (.dK ks))/\RKv C φ H kvs ks
 | .fz (.dD kvs)=>∃ ob ks,H a=some (.frz ob (dDO C.w a ks))/\RKd C φ H kvs ks
 | .fz _=>False
structure RH (h:PH):Prop where
 len:φ.length=h.length
 nd:φ.Nodup
 at':∀ (n:Nat) (a:Addr) (o:MO),φ[n]?=some a->h[n]?=some o->RO C φ H a o
def RE (δ:Ev) (σ:St):Prop:=δ.length=σ.length/\∀ (i:Nat) (p:PV),δ[i]?=some (some p)->∃ v,σ[i]?=some (some v)/\RV C φ H p v
end
section
variable {C:MC} {φ φ':List Addr} {H H':Hp}
theorem gZ {α:Type} {l l':List α} (p:l<+:l') {n:Nat} {a:α} (h:l[n]?=some a):l'[n]?=some a:=by
 obtain ⟨t,rfl⟩:=p;have:=(ab.mp h).1;rw [dk this];exact h
def Kq (H H':Hp):Prop:=jM H H'/\∀ a o xs,H a=some (.frz o (.lst xs))->H' a=some (.frz o (.lst xs))
theorem Kp.q (t:Kp H H'):Kq H H':=⟨t.1,fun a o xs h=>t.2 a o _ h⟩
theorem Kq.sq {K:af} {a:Addr} {xs:List V} (t:Kq H H') (h:SqT K H a xs):SqT K H' a xs:=t.1.sq h
theorem Kq.sf {K:af} {a:Addr} {xs:List V} (t:Kq H H') (h:SqF K H a xs):SqF K H' a xs:=by
 rcases h with ⟨o,h⟩ | h
 ·exact .inl ⟨o,t.2 _ _ _ h⟩
 ·exact .inr h
mutual
theorem RV.monoQ (p:φ<+:φ') (t:Kq H H'):∀ {x:PV} {v:V},RV C φ H x v->RV C φ' H' x v
 | .non,_,h=>h
 | .bl _,_,h=>h
 | .int _,_,h=>h
 | .str _,_,h=>h
 | .ty _,_,h=>h
 | .tup _,_,⟨a,vs,e,q,r⟩=>⟨a,vs,e,t.sq q,RVs.monoQ p t r⟩
 | .ref _,_,⟨a,e,q⟩=>⟨a,e,gZ p q⟩
 | .fl _,_,⟨a,vs,e,q,r⟩=>⟨a,vs,e,t.sf q,RVs.monoQ p t r⟩
theorem RVs.monoQ (p:φ<+:φ') (t:Kq H H'):∀ {xs:List PV} {vs:List V},RVs C φ H xs vs->RVs C φ' H' xs vs
 | [],[],_=>trivial
 | _ :: _,_ :: _,⟨h,r⟩=>⟨RV.monoQ p t h,RVs.monoQ p t r⟩
 | [],_ :: _,h=>h.elim
 | _ :: _,[],h=>h.elim
end
theorem RV.mono (p:φ<+:φ') (t:Kp H H') {x:PV} {v:V} (h:RV C φ H x v):RV C φ' H' x v:=RV.monoQ p t.q h
theorem RVs.mono (p:φ<+:φ') (t:Kp H H') {xs:List PV} {vs:List V} (h:RVs C φ H xs vs):RVs C φ' H' xs vs:=RVs.monoQ p t.q h
theorem RVs.length:∀ {xs:List PV} {vs:List V},RVs C φ H xs vs->xs.length=vs.length
 | [],[],_=>rfl
 | _ :: _,_ :: _,⟨_,r⟩=>by simp [RVs.length r]
 | [],_ :: _,h=>h.elim
 | _ :: _,[],h=>h.elim
theorem RVs.get:∀ {xs:List PV} {vs:List V} {i:Nat} {v:V},RVs C φ H xs vs->vs[i]?=some v->∃ x,xs[i]?=some x/\RV C φ H x v
 | [],[],_,_,_,e=>by simp at e
 | x :: _,w :: _,0,v,⟨h,_⟩,e=>by
  have:w=v:=by simpa using e
  subst this;exact ⟨x,rfl,h⟩
 | _ :: xs,_ :: vs,i+1,v,⟨_,r⟩,e=>by
  obtain ⟨x,h1,h2⟩:=RVs.get (xs:=xs) (vs:=vs) (i:=i) (v:=v) r (by simpa using e)
  exact ⟨x,by simpa using h1,h2⟩
 | [],_ :: _,_,_,h,_=>h.elim
 | _ :: _,[],_,_,h,_=>h.elim
theorem RVs.at:∀ {xs:List PV} {vs:List V} {i:Nat} {x:PV},RVs C φ H xs vs->xs[i]?=some x->∃ v,vs[i]?=some v/\RV C φ H x v
 | [],[],_,_,_,e=>by simp at e
 | x :: _,w :: _,0,x',⟨h,_⟩,e=>by
  have:x=x':=by simpa using e
  subst this;exact ⟨w,rfl,h⟩
 | _ :: xs,_ :: vs,i+1,x,⟨_,r⟩,e=>by
  obtain ⟨v,h1,h2⟩:=RVs.at (xs:=xs) (vs:=vs) (i:=i) (x:=x) r (by simpa using e)
  exact ⟨v,by simpa using h1,h2⟩
 | [],_ :: _,_,_,h,_=>h.elim
 | _ :: _,[],_,_,h,_=>h.elim
theorem RVs.append:∀ {xs ys:List PV} {vs us:List V},RVs C φ H xs vs->RVs C φ H ys us->RVs C φ H (xs++ys) (vs++us)
 | [],_,[],_,_,h=>h
 | _ :: _,_,_ :: _,_,⟨h,r⟩,h'=>⟨h,RVs.append r h'⟩
 | [],_,_ :: _,_,h,_=>h.elim
 | _ :: _,_,[],_,h,_=>h.elim
theorem RVs.snoc {xs:List PV} {vs:List V} {x:PV} {v:V} (r:RVs C φ H xs vs) (h:RV C φ H x v):RVs C φ H (xs++[x]) (vs++[v]):=r.append ⟨h,trivial⟩
theorem RVs.drop:∀ {xs:List PV} {vs:List V} (n:Nat),RVs C φ H xs vs->RVs C φ H (xs.drop n) (vs.drop n)
 | _,_,0,h=>h
 | [],[],_+1,_=>trivial
 | _ :: _,_ :: _,n+1,⟨_,r⟩=>RVs.drop n r
 | [],_ :: _,_+1,h=>h.elim
 | _ :: _,[],_+1,h=>h.elim
theorem RVs.take:∀ {xs:List PV} {vs:List V} (n:Nat),RVs C φ H xs vs->RVs C φ H (xs.take n) (vs.take n)
 | [],[],0,_=>trivial
 | _ :: _,_ :: _,0,_=>trivial
 | [],[],_+1,_=>trivial
 | _ :: _,_ :: _,n+1,⟨h,r⟩=>⟨h,RVs.take n r⟩
 | [],_ :: _,_,h=>h.elim
 | _ :: _,[],_,h=>h.elim
theorem RVs.set {x:PV} {v:V} (h:RV C φ H x v):∀ {xs:List PV} {vs:List V} (n:Nat),RVs C φ H xs vs->RVs C φ H (xs.set n x) (vs.set n v)
 | [],[],_,_=>trivial
 | _ :: _,_ :: _,0,⟨_,r⟩=>⟨h,r⟩
 | _ :: _,_ :: _,n+1,⟨q,r⟩=>⟨q,RVs.set h n r⟩
 | [],_ :: _,_,h=>h.elim
 | _ :: _,[],_,h=>h.elim
theorem RVs.reverse:∀ {xs:List PV} {vs:List V},RVs C φ H xs vs->RVs C φ H xs.reverse vs.reverse
 | [],[],_=>trivial
 | _ :: _,_ :: _,⟨h,r⟩=>by simp only [List.reverse_cons]; exact (RVs.reverse r).append ⟨h,trivial⟩
 | [],_ :: _,h=>h.elim
 | _ :: _,[],h=>h.elim
theorem RKv.monoQ {κ:Type} (p:φ<+:φ') (t:Kq H H') {x:List (κ×PV)} {v:List (κ×V)} (h:RKv C φ H x v):RKv C φ' H' x v:=Paired.mapP h fun _ _ q=>⟨q.1,q.2.monoQ p t⟩
theorem RKd.monoQ (p:φ<+:φ') (t:Kq H H') {x:List (PV×PV)} {v:List (PV×Addr×V)} (h:RKd C φ H x v):RKd C φ' H' x v:=Paired.mapP h fun _ _ q=>⟨q.1,q.2.1,q.2.2.1.monoQ p t,q.2.2.2.monoQ p t⟩
theorem RKv.mono {κ:Type} (p:φ<+:φ') (t:Kp H H') {x:List (κ×PV)} {v:List (κ×V)} (h:RKv C φ H x v):RKv C φ' H' x v:=Paired.mapP h fun _ _ q=>⟨q.1,q.2.mono p t⟩
theorem RKd.mono (p:φ<+:φ') (t:Kp H H') {x:List (PV×PV)} {v:List (PV×Addr×V)} (h:RKd C φ H x v):RKd C φ' H' x v:=Paired.mapP h fun _ _ q=>⟨q.1,q.2.1,q.2.2.1.mono p t,q.2.2.2.mono p t⟩
theorem RE.mono (p:φ<+:φ') (t:Kp H H') {δ:Ev} {σ:St} (h:RE C φ H δ σ):RE C φ' H' δ σ:=⟨h.1,fun i x e=>let ⟨v,q,r⟩:=h.2 i x e; ⟨v,q,r.mono p t⟩⟩
theorem RE.set {δ:Ev} {σ:St} {x:PV} {v:V} (h:RE C φ H δ σ) (r:RV C φ H x v) (i:Nat):RE C φ H (δ.set i (some x)) (σ.set i (some v)):=by
 refine ⟨by rw [ig,ig]; exact h.1,fun j p e=>?_⟩
 by_cases hj:i=j
 ·subst hj
  by_cases hl:i < δ.length
  ·rw [gj hl] at e;cases e
   exact ⟨v,by rw [gj (by rw [<- h.1]; exact hl)],r⟩
  ·rw [k6 (by rw [ig]; omega)] at e;cases e
 ·rw [bf hj] at e;rw [bf hj];exact h.2 j p e
theorem RO.stayQ {a:Addr} {o:MO} (p:φ<+:φ') (t:Kq H H') (e:H' a=H a) (h:RO C φ H a o):RO C φ' H' a o:=by
 cases o with
 | lst ps=>obtain ⟨vs,q,r⟩:=h; exact ⟨vs,e.trans q,r.monoQ p t⟩
 | dK ps=>obtain ⟨vs,q,r⟩:=h; exact ⟨vs,e.trans q,r.monoQ p t⟩
 | ins n fs=>obtain ⟨c,dx,ks,hc,q,r⟩:=h; exact ⟨c,dx,ks,hc,e.trans q,r.monoQ p t⟩
 | dD kvs=>obtain ⟨ks,q,r⟩:=h; exact ⟨ks,e.trans q,r.monoQ p t⟩
 | vw kd d=>obtain ⟨b,hb,q⟩:=h; exact ⟨b,gZ p hb,e.trans q⟩
 | fz o=>
  cases o with
  | dK kvs=>obtain ⟨ob,ks,q,r⟩:=h; exact ⟨ob,ks,e.trans q,r.monoQ p t⟩
  | dD kvs=>obtain ⟨ob,ks,q,r⟩:=h; exact ⟨ob,ks,e.trans q,r.monoQ p t⟩
  | _=>exact h.elim
theorem RO.stay {a:Addr} {o:MO} (p:φ<+:φ') (t:Kp H H') (e:H' a=H a) (h:RO C φ H a o):RO C φ' H' a o:=h.stayQ p t.q e
theorem RO.some {a:Addr} {o:MO} (h:RO C φ H a o):∃ u,H a=some u:=by
 cases o with
 | lst ps=>obtain ⟨vs,q,r⟩:=h; exact ⟨_,q⟩
 | dK ps=>obtain ⟨vs,q,r⟩:=h; exact ⟨_,q⟩
 | ins n fs=>obtain ⟨c,dx,ks,hc,q,r⟩:=h; exact ⟨_,q⟩
 | dD kvs=>obtain ⟨ks,q,r⟩:=h; exact ⟨_,q⟩
 | vw kd d=>obtain ⟨b,hb,q⟩:=h; exact ⟨_,q⟩
 | fz o=>
  cases o with
  | dK kvs=>obtain ⟨ob,ks,q,r⟩:=h; exact ⟨_,q⟩
  | dD kvs=>obtain ⟨ob,ks,q,r⟩:=h; exact ⟨_,q⟩
  | _=>exact h.elim
theorem RH.get {h:PH} (r:RH C φ H h) {n:Nat} {o:MO} (e:h[n]?=some o):∃ a,φ[n]?=some a/\RO C φ H a o:=by
 have hn:=(ab.mp e).1;have:n < φ.length:=by rw [r.len]; exact hn
 exact ⟨φ[n],by simp [this],r.at' n _ o (by simp [this]) e⟩
theorem RH.tracked {h:PH} (r:RH C φ H h) {n:Nat} {a:Addr} (e:φ[n]?=some a):∃ u,H a=some u:=by
 have hn:=(ab.mp e).1;have:n < h.length:=by rw [<- r.len]; exact hn
 exact (r.at' n a h[n] e (by simp [this])).some
theorem RH.aside {h:PH} (r:RH C φ H h) {a:Addr} {o:HO} (e:H a=none):RH C φ (upd H a o) h:=
 ⟨r.len,r.nd,fun n b ob h1 h2=>by
  have q:=r.at' n b ob h1 h2;obtain ⟨u,hu⟩:=q.some;exact q.stay (ax) (Kp.new e) (bF (cO hu e))⟩
theorem RH.new {h:PH} (r:RH C φ H h) {a:Addr} {u:HO} {o:MO} (e:H a=none) (q:RO C (φ++[a]) (upd H a u) a o):RH C (φ++[a]) (upd H a u) (h++[o]):=by
 refine ⟨by simp [r.len],?_,fun n b ob h1 h2=>?_⟩
 ·rw [i4];refine ⟨r.nd,by simp,fun x hx y hy z=>?_⟩;rw [bu] at hy;subst hy z;obtain ⟨n,hn⟩:=dw.mp hx;obtain ⟨u',hu⟩:=r.tracked hn;rw [e] at hu; cases hu
 ·by_cases hn:n < φ.length
  ·rw [dk hn] at h1;rw [dk (by rw [<- r.len]; exact hn)] at h2;have q':=r.at' n b ob h1 h2;obtain ⟨u',hu⟩:=q'.some;exact q'.stay (c7 _ _) (Kp.new e) (bF (cO hu e))
  ·have hn':n=φ.length:=by
    have:=(ab.mp h1).1;simp at this;omega
   subst hn';rw [e9 (ai _),Nat.sub_self] at h1;rw [r.len,e9 (ai _),Nat.sub_self] at h2;cases h1
   cases h2
   exact q
theorem RH.write {h:PH} (r:RH C φ H h) {n:Nat} {a:Addr} {u:HO} {o:MO} (e:φ[n]?=some a) (t:Df (H a)) (q:RO C φ (upd H a u) a o):RH C φ (upd H a u) (h.set n o):=by
 refine ⟨by rw [ig]; exact r.len,r.nd,fun m b ob h1 h2=>?_⟩
 by_cases hm:n=m
 ·subst hm;rw [e] at h1; cases h1;have hl:n < h.length:=by rw [<- r.len]; exact (ab.mp e).1
  rw [gj hl] at h2;cases h2
  exact q
 ·rw [bf hm] at h2;have hb:b≠a:=fun z=>by
   subst z;exact hm ((List.getElem?_inj (ab.mp e).1 r.nd).mp (e.trans h1.symm))
  exact (r.at' m b ob h1 h2).stay ax (Kp.upd t) (bF hb)
end
section
variable (C:MC) (φ:List Addr) (H:Hp)
def post (r:Rs PV) (Q:VK):Prop:=match r with
 | .ok p h=>∀ φ' v H',φ<+:φ'->Kp H H'->RH C φ' H' h->RV C φ' H' p v->Q v H'
 | .exc x h=>∀ φ' H',φ<+:φ'->Kp H H'->RH C φ' H' h->C.ex φ' H' x
 | .bad=>False
def bY (r:Rs Bool) (Q:Bool->Hp->Prop):Prop:=match r with
 | .ok b h=>∀ φ' H',φ<+:φ'->Kp H H'->RH C φ' H' h->Q b H'
 | .exc x h=>∀ φ' H',φ<+:φ'->Kp H H'->RH C φ' H' h->C.ex φ' H' x
 | .bad=>False
def postA (r:Rs (List PV)) (Q:List V->Hp->Prop):Prop:=match r with
 | .ok ps h=>∀ φ' vs H',φ<+:φ'->Kp H H'->RH C φ' H' h->RVs C φ' H' ps vs->Q vs H'
 | .exc x h=>∀ φ' H',φ<+:φ'->Kp H H'->RH C φ' H' h->C.ex φ' H' x
 | .bad=>False
def cG (r:Fl) (D:Ends):Prop:=match r with
 | .nx δ h=>∀ φ' σ H',φ<+:φ'->Kp H H'->RH C φ' H' h->RE C φ' H' δ σ->D.nx σ H'
 | .rt p h=>∀ φ' v H',φ<+:φ'->Kp H H'->RH C φ' H' h->RV C φ' H' p v->D.rt v H'
 | .bk δ h=>∀ φ' σ H',φ<+:φ'->Kp H H'->RH C φ' H' h->RE C φ' H' δ σ->D.bk σ H'
 | .ct δ h=>∀ φ' σ H',φ<+:φ'->Kp H H'->RH C φ' H' h->RE C φ' H' δ σ->D.ct σ H'
 | .exc x h=>∀ φ' H',φ<+:φ'->Kp H H'->RH C φ' H' h->C.ex φ' H' x
 | .bad=>False
end
section
variable {C:MC} {φ φ1:List Addr} {H H1:Hp}
theorem post.weak {r:Rs PV} {Q:VK} (p:φ<+:φ1) (t:Kp H H1) (h:post C φ H r Q):post C φ1 H1 r Q:=by
 cases r with
 | ok a h'=>exact fun φ' v H' p' t'=>h φ' v H' (p.trans p') (t.trans t')
 | exc a h'=>exact fun φ' H' p' t'=>h φ' H' (p.trans p') (t.trans t')
 | bad=>exact h
theorem bY.weak {r:Rs Bool} {Q:Bool->Hp->Prop} (p:φ<+:φ1) (t:Kp H H1) (h:bY C φ H r Q):bY C φ1 H1 r Q:=by
 cases r with
 | ok a h'=>exact fun φ' H' p' t'=>h φ' H' (p.trans p') (t.trans t')
 | exc a h'=>exact fun φ' H' p' t'=>h φ' H' (p.trans p') (t.trans t')
 | bad=>exact h
theorem postA.weak {r:Rs (List PV)} {Q:List V->Hp->Prop} (p:φ<+:φ1) (t:Kp H H1) (h:postA C φ H r Q):postA C φ1 H1 r Q:=by
 cases r with
 | ok a h'=>exact fun φ' v H' p' t'=>h φ' v H' (p.trans p') (t.trans t')
 | exc a h'=>exact fun φ' H' p' t'=>h φ' H' (p.trans p') (t.trans t')
 | bad=>exact h
theorem cG.weak {r:Fl} {D:Ends} (p:φ<+:φ1) (t:Kp H H1) (h:cG C φ H r D):cG C φ1 H1 r D:=by
 cases r with
 | nx a h'=>exact fun φ' v H' p' t'=>h φ' v H' (p.trans p') (t.trans t')
 | rt a h'=>exact fun φ' v H' p' t'=>h φ' v H' (p.trans p') (t.trans t')
 | bk a h'=>exact fun φ' v H' p' t'=>h φ' v H' (p.trans p') (t.trans t')
 | ct a h'=>exact fun φ' v H' p' t'=>h φ' v H' (p.trans p') (t.trans t')
 | exc a h'=>exact fun φ' H' p' t'=>h φ' H' (p.trans p') (t.trans t')
 | bad=>exact h
theorem post.imp {r:Rs PV} {Q Q':VK} (h:post C φ H r Q) (i:∀ v H',Q v H'->Q' v H'):post C φ H r Q':=by
 cases r with
 | ok a h'=>exact fun φ' v H' p t rh rv=>i v H' (h φ' v H' p t rh rv)
 | exc a h'=>exact h
 | bad=>exact h
theorem post.bind {r:Rs PV} {f:PV->PH->Rs PV} {Q:VK} (h:post C φ H (r.bind f) Q):post C φ H r fun v H1=>∃ φ1 p h1,φ<+:φ1/\Kp H H1/\RH C φ1 H1 h1/\RV C φ1 H1 p v/\post C φ1 H1 (f p h1) Q:=by
 cases r with
 | ok a h'=>exact fun φ' v H' p t rh rv=>⟨φ',a,h',p,t,rh,rv,post.weak p t h⟩
 | exc a h'=>exact h
 | bad=>exact h
theorem post.bindB {r:Rs PV} {f:PV->PH->Rs Bool} {Q:Bool->Hp->Prop} (h:bY C φ H (r.bind f) Q):post C φ H r fun v H1=>∃ φ1 p h1,φ<+:φ1/\Kp H H1/\RH C φ1 H1 h1/\RV C φ1 H1 p v/\bY C φ1 H1 (f p h1) Q:=by
 cases r with
 | ok a h'=>exact fun φ' v H' p t rh rv=>⟨φ',a,h',p,t,rh,rv,bY.weak p t h⟩
 | exc a h'=>exact h
 | bad=>exact h
theorem bY.bind {r:Rs Bool} {f:Bool->PH->Rs PV} {Q:VK} (h:post C φ H (r.bind f) Q):bY C φ H r fun b H1=>∃ φ1 h1,φ<+:φ1/\Kp H H1/\RH C φ1 H1 h1/\post C φ1 H1 (f b h1) Q:=by
 cases r with
 | ok a h'=>exact fun φ' H' p t rh=>⟨φ',h',p,t,rh,post.weak p t h⟩
 | exc a h'=>exact h
 | bad=>exact h
theorem bY.bindB {r:Rs Bool} {f:Bool->PH->Rs Bool} {Q:Bool->Hp->Prop} (h:bY C φ H (r.bind f) Q):bY C φ H r fun b H1=>∃ φ1 h1,φ<+:φ1/\Kp H H1/\RH C φ1 H1 h1/\bY C φ1 H1 (f b h1) Q:=by
 cases r with
 | ok a h'=>exact fun φ' H' p t rh=>⟨φ',h',p,t,rh,bY.weak p t h⟩
 | exc a h'=>exact h
 | bad=>exact h
theorem postA.bind {r:Rs (List PV)} {f:List PV->PH->Rs PV} {Q:VK} (h:post C φ H (r.bind f) Q):postA C φ H r fun vs H1=>∃ φ1 ps h1,φ<+:φ1/\Kp H H1/\RH C φ1 H1 h1/\RVs C φ1 H1 ps vs/\post C φ1 H1 (f ps h1) Q:=by
 cases r with
 | ok a h'=>exact fun φ' v H' p t rh rv=>⟨φ',a,h',p,t,rh,rv,post.weak p t h⟩
 | exc a h'=>exact h
 | bad=>exact h
theorem postA.bindA {r:Rs (List PV)} {f:List PV->PH->Rs (List PV)} {Q:List V->Hp->Prop} (h:postA C φ H (r.bind f) Q):postA C φ H r fun vs H1=>∃ φ1 ps h1,φ<+:φ1/\Kp H H1/\RH C φ1 H1 h1/\RVs C φ1 H1 ps vs/\postA C φ1 H1 (f ps h1) Q:=by
 cases r with
 | ok a h'=>exact fun φ' v H' p t rh rv=>⟨φ',a,h',p,t,rh,rv,postA.weak p t h⟩
 | exc a h'=>exact h
 | bad=>exact h
theorem post.bindA {r:Rs PV} {f:PV->PH->Rs (List PV)} {Q:List V->Hp->Prop} (h:postA C φ H (r.bind f) Q):post C φ H r fun v H1=>∃ φ1 p h1,φ<+:φ1/\Kp H H1/\RH C φ1 H1 h1/\RV C φ1 H1 p v/\postA C φ1 H1 (f p h1) Q:=by
 cases r with
 | ok a h'=>exact fun φ' v H' p t rh rv=>⟨φ',a,h',p,t,rh,rv,postA.weak p t h⟩
 | exc a h'=>exact h
 | bad=>exact h
theorem post.val {p:PV} {v:V} {h:PH} {Q:VK} (q:post C φ H (.ok p h) Q) (rh:RH C φ H h) (rv:RV C φ H p v):Q v H:=q φ v H ax (Kp.refl H) rh rv
end
end L2
namespace L2
open PySem PySem.Spec PyProof.Rows
structure Cxt (C:MC) (k:Nat) (X:Cx):Prop where
 K:X.K=C.K
 calm:X.calm=true
 room:gG k X.A
 bn:∀ x∈C.bs,X.mg x=none
 w:X.w=C.w
theorem Cxt.hu {C:MC} {k:Nat} {X:Cx} (c:Cxt C k X):X.A.units+1 < cLine:=Vm c.room
theorem Cxt.hu64 {C:MC} {k:Nat} {X:Cx} (c:Cxt C k X):X.A.units+64 < cLine:=c.room.units
theorem Cxt.comp {C:MC} {k:Nat} {X:Cx} (c:Cxt C k X) (sc:Scope) (N:List Str) (a:Addr) (fp:List Addr) (s:Shared) (H:Hp):Cxt C k (X.comp sc N a fp s H):=⟨c.K,c.calm,c.room,c.bn,c.w⟩
section
variable (C:MC)
def rd (m:Me):TE:=fun σ H Q=>∃ φ δ h,RH C φ H h/\RE C φ H δ σ/\post C φ H (m δ h) Q
def rdB (m:Ev->PH->Rs Bool):TT:=fun σ H Q=>∃ φ δ h,RH C φ H h/\RE C φ H δ σ/\bY C φ H (m δ h) Q
def rdA (m:Ev->PH->Rs (List PV)):TA:=fun σ H Q=>∃ φ δ h,RH C φ H h/\RE C φ H δ σ/\postA C φ H (m δ h) Q
def rdS (m:Ms):TS:=fun D σ H=>∃ φ δ h,RH C φ H h/\RE C φ H δ σ/\cG C φ H (m δ h) D
def r2 (g:PV->PV->PH->Rs PV):R2:=fun x y H Q=>∃ φ h p q,RH C φ H h/\RV C φ H p x/\RV C φ H q y/\post C φ H (g p q h) Q
def r1 (g:PV->PH->Rs PV):V->Hp->VK->Prop:=fun x H Q=>∃ φ h p,RH C φ H h/\RV C φ H p x/\post C φ H (g p h) Q
def rL (g:List PV->PH->Rs PV):List V->Hp->VK->Prop:=fun xs H Q=>∃ φ h ps,RH C φ H h/\RVs C φ H ps xs/\post C φ H (g ps h) Q
end
variable {C:MC} {k:Nat} {X:Cx}
def SE (C:MC) (k:Nat) (X:Cx) (e:Expr) (m:Me):Prop:=Cxt C k X->PE X e (rd C m)
def ST (C:MC) (k:Nat) (X:Cx) (e:Expr) (m:Ev->PH->Rs Bool):Prop:=Cxt C k X->PT X e (rdB C m)
def SA (C:MC) (k:Nat) (X:Cx) (es:List Expr) (m:Ev->PH->Rs (List PV)):Prop:=Cxt C k X->PA X es (rdA C m)
def SSt (C:MC) (k:Nat) (X:Cx) (st:Stmt) (m:Ms):Prop:=Cxt C k X->PS X st (rdS C m)
def SSs (C:MC) (k:Nat) (X:Cx) (st:List Stmt) (m:Ms):Prop:=Cxt C k X->PSs X st (rdS C m)
def OpS (C:MC) (k:Nat) (X:Cx) (f:Value->Value->Sem Value) (g:PV->PV->PH->Rs PV):Prop:=Cxt C k X->OpR X f (r2 C g)
def UnS (C:MC) (k:Nat) (X:Cx) (f:Value->Sem Value) (g:PV->PH->Rs PV):Prop:=Cxt C k X->UnR X f (r1 C g)
def hV (C:MC) (k:Nat) (X:Cx) (f:Value) (g:List PV->PH->Rs PV):Prop:=Cxt C k X->bS X f (rL C g)
def Bv:Ev->Nat->Option PV
 | [],_=>none
 | x :: _,0=>x
 | _ :: r,n+1=>Bv r n
@[simp] theorem Jh (x:Option PV) (r:Ev):Bv (x :: r) 0=x:=(rfl)
@[simp] theorem Ji (x:Option PV) (r:Ev) (n:Nat):Bv (x :: r) (n+1)=Bv r n:=(rfl)
theorem vZ:∀ {δ:Ev} {i:Nat} {p:PV},Bv δ i=some p->δ[i]?=some (some p)
 | [],_,_,h=>by cases h
 | x :: _,0,p,h=>by
  have h':x=some p:=h;simp [h']
 | _ :: r,n+1,p,h=>by
  rw [fv];exact vZ (δ:=r) (i:=n) h
def mV (i:Nat):Me:=fun δ h=>match Bv δ i with
 | some p=>.ok p h
 | none=>.bad
def mC (p:PV):Me:=fun _ h=>.ok p h
theorem aA (i:Nat) {x:Str} {pos:Pos} (hN:X.N[i]?=some x:=by rfl) (hv:Vis X.env.scope x:=by first | exact Or.inl rfl | exact Or.inr (Or.inl rfl) | exact Or.inr (Or.inr rfl)) (hd:(x == ("__debug__" : Str))=false:=by decide)
  (hcd:(x == ("__classdict__" : Str))=false:=by decide):SE C k X (.Name x pos) (mV i):=fun _=>by
 refine (Ff hN hv hd hcd).imp fun σ H Q h=>?_;obtain ⟨φ,δ,h,rh,re,p⟩:=h;unfold mV at p;cases e:Bv δ i with
 | none=>rw [e] at p; exact p.elim
 | some x=>
  rw [e] at p;obtain ⟨v,hv,rv⟩:=re.2 i x (vZ e);exact ⟨v,hv,p.val rh rv⟩
theorem aG {i j pos}:SE C k X (.Constant (.int i) j pos) (mC (.int i)):=fun _=>Sm.imp fun σ H Q ⟨φ,δ,h,rh,re,p⟩=>p.val rh rfl
theorem Bw {i j pos}:SE C k X (.Constant (.bool i) j pos) (mC (.bl i)):=fun _=>V0.imp fun σ H Q ⟨φ,δ,h,rh,re,p⟩=>p.val rh rfl
theorem HH {j pos}:SE C k X (.Constant .none j pos) (mC .non):=fun _=>Sn.imp fun σ H Q ⟨φ,δ,h,rh,re,p⟩=>p.val rh rfl
theorem kR {i j pos}:SE C k X (.Constant (.str i) j pos) (mC (.str i)):=fun _=>So.imp fun σ H Q ⟨φ,δ,h,rh,re,p⟩=>p.val rh rfl
def aD (g:PV->PV->PH->Rs PV) (ma mb:Me):Me:=fun δ h=>(ma δ h).bind fun x h1=>(mb δ h1).bind fun y h2=>g x y h2
theorem HI {g:PV->PV->PH->Rs PV} {ma mb:Me} {σ:St} {H:Hp} {Q:VK} (h:rd C (aD g ma mb) σ H Q):tOp (r2 C g) (rd C ma) (rd C mb) σ H Q:=by
 obtain ⟨φ,δ,h,rh,re,p⟩:=h;refine ⟨φ,δ,h,rh,re,(post.bind p).imp ?_⟩;rintro v H1 ⟨φ1,x,h1,p1,t1,rh1,rv1,q1⟩;refine ⟨φ1,δ,h1,rh1,re.mono p1 t1,(post.bind q1).imp ?_⟩;rintro u H2 ⟨φ2,y,h2,p2,t2,rh2,rv2,q2⟩;exact ⟨φ2,h2,x,y,rh2,rv1.mono p2 t2,rv2,q2⟩
section
variable {a b e:Expr} {ma mb:Me} {g:PV->PV->PH->Rs PV} {pos:Pos}
theorem aO {op:Operator} (ho:OpS C k X (ff op) g) (ha:SE C k X a ma) (hb:SE C k X b mb):SE C k X (.BinOp a op b pos) (aD g ma mb):=fun c=>
 (V8 (ho c) (ha c) (hb c)).imp fun σ H Q h=>HI h
theorem S3 {op:CmpOp} (ho:OpS C k X (cu op) g) (ha:SE C k X a ma) (hb:SE C k X b mb) (hm:behindInMarks op b=false:=by first | exact L7 _ | rfl):SE C k X (.Compare a [op] [b] pos) (aD g ma mb):=fun c=>
 (OZ (ho c) (ha c) (hb c) hm).imp fun σ H Q h=>HI h
def mUn (g:PV->PH->Rs PV) (ma:Me):Me:=fun δ h=>(ma δ h).bind g
theorem VA {op:UnaryOp} {g:PV->PH->Rs PV} (ho:UnS C k X (unaryOp op) g) (ha:SE C k X a ma):SE C k X (.UnaryOp op a pos) (mUn g ma):=fun c=>
 (V9 (ho c) (ha c)).imp fun σ H Q h=>by
  obtain ⟨φ,δ,h,rh,re,p⟩:=h;refine ⟨φ,δ,h,rh,re,(post.bind p).imp ?_⟩;rintro v H1 ⟨φ1,x,h1,p1,t1,rh1,rv1,q1⟩;exact ⟨φ1,h1,x,rh1,rv1,q1⟩
end
def aN (h:PH) (n:Nat):Option (List PV):=match h[n]? with
 | some (.lst xs)=>some xs
 | _=>none
theorem bN {φ:List Addr} {H:Hp} {h:PH} {n:Nat} {xs:List PV} (rh:RH C φ H h) (e:aN h n=some xs):∃ a vs,φ[n]?=some a/\SqL C.K H a vs/\RVs C φ H xs vs:=by
 unfold aN at e;cases q:h[n]? with
 | none=>rw [q] at e; cases e
 | some o=>
  rw [q] at e;obtain ⟨a,ha,ro⟩:=rh.get q;cases o with
  | lst ys=>cases e; obtain ⟨vs,q',r⟩:=ro; exact ⟨a,vs,ha,SqL.of q',r⟩
  | _=>cases e
def dE (h:PH) (n:Nat):Option (List PV):=match h[n]? with
 | some (.lst xs)=>some xs
 | _=>none
theorem iS {h:PH} {n:Nat} {xs:List PV} (e:dE h n=some xs):h[n]?=some (.lst xs):=by
 unfold dE at e;cases q:h[n]? with
 | none=>rw [q] at e; cases e
 | some o=>
  rw [q] at e;cases o with
  | lst ys=>cases e; rfl
  | _=>cases e
def cX (x:PV) (h:PH):Option (List PV):=match x with
 | .ref n=>aN h n
 | .fl xs=>some xs
 | _=>none
theorem dN {φ:List Addr} {H:Hp} {h:PH} {x:PV} {v:V} {xs:List PV} (rh:RH C φ H h) (rv:RV C φ H x v) (e:cX x h=some xs):∃ a vs,v=.ref a/\SqL C.K H a vs/\RVs C φ H xs vs:=by
 cases x with
 | ref n=>
  obtain ⟨a,rfl,ha⟩:=rv;obtain ⟨a2,vs,ha2,sa,ra⟩:=bN rh e;rw [ha] at ha2; cases ha2;exact ⟨a,vs,rfl,sa,ra⟩
 | fl ys=>
  cases e
  obtain ⟨a,vs,rfl,sa,ra⟩:=rv;exact ⟨a,vs,rfl,sa.sq,ra⟩
 | _=>cases e
def S4:List PV->Bool
 | []=>true
 | _ :: _=>false
def LF:PV->PV->PH->Rs PV:=fun x y h=>match x,y with
 | .int i,.int j=>.ok (.int (i+j)) h
 | .str i,.str j=>if i.length+j.length<=aw then .ok (.str (i++j)) h else .bad
 | .tup xs,.tup ys=>if S4 xs=false/\xs.length+ys.length<=aw then .ok (.tup (xs++ys)) h else .bad
 | .ref a,.ref b=>match dE h a,dE h b with
  | some xs,some ys=>if xs.length+ys.length<=aw then .ok (.ref h.length) (h++[.lst (xs++ys)]) else .bad
  | _,_=>.bad
 | _,_=>.bad
theorem post.ite {φ:List Addr} {H:Hp} {c:Prop} [Decidable c] {r:Rs PV} {Q:VK} (h:post C φ H (if c then r else .bad) Q):c/\post C φ H r Q:=by
 by_cases hc:c
 ·rw [if_pos hc] at h; exact ⟨hc,h⟩
 ·rw [if_neg hc] at h; exact h.elim
theorem post.lnew {φ:List Addr} {H:Hp} {h:PH} {xs:List PV} {vs:List V} {Q:VK} (q:post C φ H (.ok (.ref h.length) (h++[.lst xs])) Q) (rh:RH C φ H h) (r:RVs C φ H xs vs) {p:Addr} (hp:H p=none):Q (.ref p) (upd H p (.lst vs)):=
 q (φ++[p]) (.ref p) _ (c7 _ _) (Kp.new hp) (rh.new hp ⟨vs,bH,r.mono (c7 _ _) (Kp.new hp)⟩) ⟨p,rfl,by rw [<- rh.len]; simp⟩
theorem post.tnew {φ:List Addr} {H:Hp} {h:PH} {xs:List PV} {vs:List V} {Q:VK} (q:post C φ H (.ok (.tup xs) h) Q) (rh:RH C φ H h) (r:RVs C φ H xs vs) {p:Addr} (hp:H p=none):Q (.ref p) (upd H p (.tup vs)):=
 q φ (.ref p) _ ax (Kp.new hp) (rh.aside hp) ⟨p,vs,rfl,SqT.of bH,r.mono ax (Kp.new hp)⟩
theorem post.lset {φ:List Addr} {H:Hp} {h:PH} {n:Nat} {a:Addr} {p:PV} {v:V} {xs:List PV} {ws vs:List V} {Q:VK} (q:post C φ H (.ok p (h.set n (.lst xs))) Q) (rh:RH C φ H h) (e:φ[n]?=some a) (hl:H a=some (.lst ws)) (r:RVs C φ H xs vs) (rv:RV C φ H p v):Q v (upd H a (.lst vs)):=
 q φ v _ ax (Kp.lst hl) (rh.write e (by rw [hl]; trivial) ⟨vs,bH,r.mono ax (Kp.lst hl)⟩) (rv.mono ax (Kp.lst hl))
theorem LG {xs:List PV} {vs:List V} {φ:List Addr} {H:Hp} (r:RVs C φ H xs vs) (h:S4 xs=false):vs≠[]:=by
 cases xs with
 | nil=>cases h
 | cons x xs=>
  cases vs with
  | nil=>exact r.elim
  | cons=>intro z; cases z
theorem VB:OpS C k X (ff .Add) LF:=fun c=>(Pb C.K c.K).imp fun x y H Q h=>by
 obtain ⟨φ,h,p,q,rh,rx,ry,po⟩:=h;unfold LF at po;cases p with
 | int i=>
  cases q with
  | int j=>cases rx; cases ry; exact po.val rh rfl
  | _=>exact po.elim
 | str i=>
  cases q with
  | str j=>cases rx; cases ry; exact ⟨po.ite.1,po.ite.2.val rh rfl⟩
  | _=>exact po.elim
 | tup xs=>
  cases q with
  | tup ys=>
   obtain ⟨a,vs,rfl,sa,ra⟩:=rx;obtain ⟨b,us,rfl,sb,rb⟩:=ry;obtain ⟨⟨h1,h2⟩,po⟩:=po.ite;refine .inr ⟨a,b,vs,us,rfl,rfl,sa,sb,LG ra h1,by rw [<- ra.length,<- rb.length]; exact h2,fun z=>?_,fun z p hp=>po.tnew rh (ra.append rb) hp⟩;subst z;have e:ys=[]:=List.eq_nil_of_length_eq_zero rb.length;subst e;exact po.val rh ⟨a,vs,rfl,sa,by rw [my]; exact ra⟩
  | _=>exact po.elim
 | ref n=>
  cases q with
  | ref m=>
   obtain ⟨a,rfl,ha⟩:=rx;obtain ⟨b,rfl,hb⟩:=ry;dsimp only at po;cases e1:dE h n with
   | none=>rw [e1] at po; exact po.elim
   | some xs=>
    cases e2:dE h m with
    | none=>rw [e1,e2] at po; exact po.elim
    | some ys=>
     rw [e1,e2] at po;obtain ⟨vs,h1,r1⟩:=rh.at' n a _ ha (iS e1);obtain ⟨us,h2,r2⟩:=rh.at' m b _ hb (iS e2);obtain ⟨hz,po⟩:=po.ite;exact .inl ⟨a,b,vs,us,rfl,rfl,h1,h2,by rw [<- r1.length,<- r2.length]; exact hz,fun p hp=>po.lnew rh (r1.append r2) hp⟩
  | _=>exact po.elim
 | _=>exact po.elim
def vInt (P:Int->Int->Prop) [∀ i j,Decidable (P i j)] (f:Int->Int->Int):PV->PV->PH->Rs PV:=fun x y h=>match x,y with
 | .int i,.int j=>if P i j then .ok (.int (f i j)) h else .bad
 | _,_=>.bad
theorem HJ {f:Value->Value->Sem Value} {P:Int->Int->Prop} [∀ i j,Decidable (P i j)] {g:Int->Int->Int} (ho:OpR X f (Aa P g)):OpS C k X f (vInt P g):=fun c=>ho.imp fun x y H Q h=>by
 obtain ⟨φ,h,p,q,rh,rx,ry,po⟩:=h;unfold vInt at po;cases p with
 | int i=>
  cases q with
  | int j=>cases rx; cases ry; exact ⟨po.ite.1,po.ite.2.val rh rfl⟩
  | _=>exact po.elim
 | _=>exact po.elim
noncomputable instance (i j:Int):Decidable (D4 i j):=fw _
noncomputable instance (i j:Int):Decidable (L6 i j):=fw _
noncomputable instance (i j:Int):Decidable (IT i j):=fw _
def FK:PV->PV->PH->Rs PV:=fun x y h=>match x,y with
 | .int i,.int j=>.ok (.int (i - j)) h
 | _,_=>.bad
theorem HK:OpS C k X (ff .Sub) FK:=fun c=>Pc.imp fun x y H Q h=>by
 obtain ⟨φ,h,p,q,rh,rx,ry,po⟩:=h;unfold FK at po;cases p with
 | int i=>
  cases q with
  | int j=>cases rx; cases ry; exact po.val rh rfl
  | _=>exact po.elim
 | _=>exact po.elim
noncomputable abbrev Bx:=vInt D4 fun i j=>i*j
noncomputable abbrev oA:=vInt L6 fun i j=>i / j
abbrev gW:=vInt (fun _ j=>0 < j) fun i j=>i % j
noncomputable abbrev LH:=vInt IT fun i j=>i ^ j.toNat
theorem HL:OpS C k X (ff .Mult) Bx:=HJ Pd
theorem jX:OpS C k X (ff .FloorDiv) oA:=HJ Pe
theorem eC:OpS C k X (ff .Mod) gW:=HJ Pf
theorem LI:OpS C k X (ff .Pow) LH:=HJ Pg
def LJ:PV->PH->Rs PV:=fun x h=>match x with
 | .int i=>.ok (.int (-i)) h
 | _=>.bad
end L2
namespace L2
open PySem PySem.Spec PyProof.Rows
variable {C:MC} {k:Nat} {X:Cx}
def Dn (f:Int->Int->Bool) (g:List Nat->List Nat->Bool):PV->PV->PH->Rs PV:=fun x y h=>match x,y with
 | .int i,.int j=>.ok (.bl (f i j)) h
 | .str i,.str j=>.ok (.bl (g i.cps.toList j.cps.toList)) h
 | _,_=>.bad
theorem LK {f:Value->Value->Sem Value} {p:Int->Int->Bool} {g:List Nat->List Nat->Bool} (ho:OpR X f (Da p g)):OpS C k X f (Dn p g):=fun c=>ho.imp fun x y H Q h=>by
 obtain ⟨φ,h,p,q,rh,rx,ry,po⟩:=h;unfold Dn at po;cases p with
 | int i=>
  cases q with
  | int j=>cases rx; cases ry; exact po.val rh rfl
  | _=>exact po.elim
 | str i=>
  cases q with
  | str j=>cases rx; cases ry; exact po.val rh rfl
  | _=>exact po.elim
 | _=>exact po.elim
abbrev vLt:=Dn (fun i j=>decide (i < j)) fun i j=>decide (i < j)
abbrev vGt:=Dn (fun i j=>decide (j < i)) fun i j=>decide (j < i)
abbrev vLe:=Dn (fun i j=>decide (i<=j)) fun i j=>!decide (j < i)
abbrev vGe:=Dn (fun i j=>decide (j<=i)) fun i j=>!decide (i < j)
theorem Xw:OpS C k X (cu .Lt) vLt:=LK Ta
theorem LL:OpS C k X (cu .Gt) vGt:=LK Tb
theorem By:OpS C k X (cu .LtE) vLe:=LK Tc
mutual
def PV.d:PV->Option D
 | .non=>some .non
 | .bl b=>some (.bl b)
 | .int i=>some (.int i)
 | .str x=>some (.str x)
 | .tup xs=>match PV.ds xs with
  | some ds=>some (.tup ds)
  | none=>none
 | .ref _=>none
 | .ty _=>none
 | .fl _=>none
def PV.ds:List PV->Option (List D)
 | []=>some []
 | x :: xs=>match PV.d x,PV.ds xs with
  | some d,some ds=>some (d :: ds)
  | _,_=>none
end
section
variable {φ:List Addr} {H:Hp}
mutual
theorem RV.rep:∀ {x:PV} {d:D} {v:V},RV C φ H x v->x.d=some d->Rep C.K H d v
 | .non,_,_,h,e=>by cases e; exact h
 | .bl _,_,_,h,e=>by cases e; exact h
 | .int _,_,_,h,e=>by cases e; exact h
 | .str _,_,_,h,e=>by cases e; exact h
 | .tup xs,d,v,⟨a,vs,e1,q,r⟩,e=>by
  unfold PV.d at e;cases e2:PV.ds xs with
  | none=>rw [e2] at e; cases e
  | some ds=>
   rw [e2] at e;cases e
   exact ⟨a,vs,e1,q,RVs.reps r e2⟩
 | .ref _,_,_,_,e=>by cases e
 | .ty _,_,_,_,e=>by cases e
 | .fl _,_,_,_,e=>by cases e
theorem RVs.reps:∀ {xs:List PV} {ds:List D} {vs:List V},RVs C φ H xs vs->PV.ds xs=some ds->cI C.K H ds vs
 | [],_,[],_,e=>by cases e; trivial
 | x :: xs,_,v :: vs,⟨h,r⟩,e=>by
  unfold PV.ds at e;cases e1:PV.d x with
  | none=>rw [e1] at e; cases e
  | some d=>
   cases e2:PV.ds xs with
   | none=>rw [e1,e2] at e; cases e
   | some ds=>
    rw [e1,e2] at e;cases e
    exact ⟨RV.rep h e1,RVs.reps r e2⟩
 | [],_,_ :: _,h,_=>h.elim
 | _ :: _,_,[],h,_=>h.elim
end
end
def jO (x y:PV) (h:PH):Option Bool:=match x.d,y.d with
 | some d,some e=>if d.depth<=40 then some (eqD d e) else none
 | _,_=>match cX x h,cX y h with
   | some xs,some ys=>match PV.ds xs,PV.ds ys with
    | some ds,some es=>if D.depths ds<=40 then some (eI ds es) else none
    | _,_=>none
   | _,_=>none
def ofB (o:Option Bool) (h:PH):Rs PV:=match o with
 | some b=>.ok (.bl b) h
 | none=>.bad
def vEq:PV->PV->PH->Rs PV:=fun x y h=>ofB (jO x y h) h
def vNe:PV->PV->PH->Rs PV:=fun x y h=>ofB ((jO x y h).map not) h
theorem jP {φ:List Addr} {H:Hp} {h:PH} {p q:PV} {x y:V} {b:Bool} (rh:RH C φ H h) (rx:RV C φ H p x) (ry:RV C φ H q y) (e:jO p q h=some b):
  (∃ d e,Rep C.K H d x/\Rep C.K H e y/\d.depth<=40/\b=eqD d e)\/(∃ ds es,Dg C.K H ds x/\Dg C.K H es y/\D.depths ds<=40/\b=eI ds es):=by
 unfold jO at e;split at e
 ·rename_i d e' h1 h2;split at e
  ·rename_i hd;cases e
   exact .inl ⟨d,e',rx.rep h1,ry.rep h2,hd,rfl⟩
  ·cases e
 ·split at e
  ·rename_i xs ys h1 h2;split at e
   ·rename_i ds es h3 h4;split at e
    ·rename_i hd;cases e
     obtain ⟨a',vs,rfl,sa,ra⟩:=dN rh rx h1;obtain ⟨b'',us,rfl,sb,rb⟩:=dN rh ry h2;exact .inr ⟨ds,es,⟨a',vs,rfl,sa,ra.reps h3⟩,⟨b'',us,rfl,sb,rb.reps h4⟩,hd,rfl⟩
    ·cases e
   ·cases e
  ·cases e
theorem post.ofB {φ:List Addr} {H:Hp} {h:PH} {o:Option Bool} {Q:VK} (q:post C φ H (ofB o h) Q):∃ b,o=some b/\post C φ H (.ok (.bl b) h) Q:=by
 cases o with
 | none=>exact q.elim
 | some b=>exact ⟨b,rfl,q⟩
theorem Bz:OpS C k X (cu .Eq) vEq:=fun c=>((Tg c.hu64 C.K c.K).or (Ti c.hu64 C.K c.K)).imp fun x y H Q h=>by
 obtain ⟨φ,h,p,q,rh,rx,ry,po⟩:=h;obtain ⟨b,e,po⟩:=po.ofB;rcases jP rh rx ry e with ⟨d,e',h1,h2,h3,rfl⟩ | ⟨d,e',h1,h2,h3,rfl⟩
 ·exact .inl ⟨d,e',h1,h2,h3,po.val rh rfl⟩
 ·exact .inr ⟨d,e',h1,h2,h3,po.val rh rfl⟩
theorem Tt:OpS C k X (cu .NotEq) vNe:=fun c=>((Th c.hu64 C.K c.K).or (Tj c.hu64 C.K c.K)).imp fun x y H Q h=>by
 obtain ⟨φ,h,p,q,rh,rx,ry,po⟩:=h;obtain ⟨b,e,po⟩:=po.ofB;cases e0:jO p q h with
 | none=>rw [e0] at e; cases e
 | some b'=>
  rw [e0] at e;cases e
  rcases jP rh rx ry e0 with ⟨d,e',h1,h2,h3,rfl⟩ | ⟨d,e',h1,h2,h3,rfl⟩
  ·exact .inl ⟨d,e',h1,h2,h3,po.val rh rfl⟩
  ·exact .inr ⟨d,e',h1,h2,h3,po.val rh rfl⟩
def pQ:PV->Option Key
 | .int i=>some (.inl i)
 | .str x=>some (.inr x)
 | _=>none
def aW {κ:Type} [DecidableEq κ]:List (κ×PV)->κ->Option PV
 | [],_=>none
 | (a,p) :: r,b=>if a=b then some p else aW r b
def Do (h:PH) (n:Nat) (x:PV):Option (Option PV):=match h[n]? with
 | some (.dK kvs)=>match pQ x with
  | some key=>some (aW kvs key)
  | none=>none
 | _=>none
def wA (x:PV) (ys:List PV):Option Bool:=match x.d,PV.ds ys with
 | some d,some ds=>if D.depths ds<=40 then some (ds.any fun e=>eqD e d) else none
 | _,_=>none
def FL (x y:PV) (h:PH):Option Bool:=match y with
 | .tup ys=>wA x ys
 | .ref n=>match aN h n with
  | some ys=>wA x ys
  | none=>(Do h n x).map Option.isSome
 | .fl ys=>wA x ys
 | _=>none
def vIn:PV->PV->PH->Rs PV:=fun x y h=>ofB (FL x y h) h
def wB:PV->PV->PH->Rs PV:=fun x y h=>ofB ((FL x y h).map not) h
theorem wC {φ:List Addr} {H:Hp} {x:PV} {v:V} {key:Key} (r:RV C φ H x v) (e:pQ x=some key):v=kV key:=by
 cases x <;> first | (cases e; exact r) | cases e
theorem rY {φ:List Addr} {H:Hp} {κ:Type} [DecidableEq κ] {kvs:List (κ×PV)} {ks:List (κ×V)} (r:RKv C φ H kvs ks) (a:κ):match aW kvs a,iP ks a with
  | some p,some v=>RV C φ H p v
  | none,none=>True
  | _,_=>False:=by
 unfold RKv at r
 induction r with
 | nil=>trivial
 | @cons p q ps qs h t ih=>
  obtain ⟨h1,h2⟩:=h;obtain ⟨pk,pv⟩:=p
  by_cases e:pk=a
  ·have e':q.1=a:=h1.symm.trans e;rw [pB e'];unfold aW;rw [if_pos e];exact h2
  ·have e':¬ q.1=a:=fun z=>e (h1.trans z);rw [pC e'];unfold aW;rw [if_neg e];exact ih
theorem oB {φ:List Addr} {H:Hp} {h:PH} {n:Nat} {a:Addr} {x:PV} {v:V} {o:Option PV} (rh:RH C φ H h) (ha:φ[n]?=some a) (rv:RV C φ H x v) (e:Do h n x=some o):
  ∃ o',nV H a v o'/\o.isSome=o'.isSome/\∀ p,o=some p->∃ w,o'=some w/\RV C φ H p w:=by
 unfold Do at e;split at e
 ·rename_i kvs hk;split at e
  ·rename_i key hkey;cases e
   obtain ⟨ks,hH,rk⟩:=rh.at' n a _ ha hk;have q:=rY rk key;rw [wC rv hkey];refine ⟨iP ks key,nV.k hH,?_,fun p hp=>?_⟩
   ·cases e1:aW kvs key <;> cases e2:iP ks key <;> rw [e1,e2] at q <;> first | rfl | exact q.elim
   ·rw [hp] at q;cases e2:iP ks key with
    | none=>rw [e2] at q; exact q.elim
    | some w=>rw [e2] at q; exact ⟨w,rfl,q⟩
  ·cases e
 ·cases e
theorem wD {φ:List Addr} {H:Hp} {h:PH} {p q:PV} {x y:V} {b:Bool} (rh:RH C φ H h) (rx:RV C φ H p x) (ry:RV C φ H q y) (e:FL p q h=some b):
  (∃ d a ds vs,y=.ref a/\(SqL C.K H a vs\/SqT C.K H a vs)/\Rep C.K H d x/\cI C.K H ds vs/\D.depths ds<=40/\b=ds.any fun e=>eqD e d)\/∃ a o,y=.ref a/\nV H a x o/\b=o.isSome:=by
 have go:∀ {a:Addr} {vs:List V} {ys:List PV},(SqL C.K H a vs\/SqT C.K H a vs)->RVs C φ H ys vs->wA p ys=some b->∃ d a' ds vs,V.ref a=.ref a'/\(SqL C.K H a' vs\/SqT C.K H a' vs)/\Rep C.K H d x/\cI C.K H ds vs/\D.depths ds<=40/\b=ds.any fun e=>eqD e d:=by
  intro a vs ys hs hr he;unfold wA at he;split at he
  ·rename_i d ds h1 h2;split at he
   ·rename_i hd;cases he
    exact ⟨d,a,ds,vs,rfl,hs,rx.rep h1,hr.reps h2,hd,rfl⟩
   ·cases he
  ·cases he
 unfold FL at e;split at e
 ·obtain ⟨a,vs,rfl,sa,ra⟩:=ry;exact .inl (go (.inr sa) ra e)
 ·rename_i n;obtain ⟨a,rfl,ha⟩:=ry;split at e
  ·rename_i ys hl;obtain ⟨a2,vs,ha2,sa,ra⟩:=bN rh hl;rw [ha] at ha2; cases ha2;exact .inl (go (.inl sa) ra e)
  ·cases e':Do h n p with
   | none=>rw [e'] at e; cases e
   | some o=>
    rw [e'] at e;cases e
    obtain ⟨o',g,i,_⟩:=oB rh ha rx e';exact .inr ⟨a,o',rfl,g,i⟩
 ·obtain ⟨a,vs,rfl,sa,ra⟩:=ry;exact .inl (go (.inl sa.sq) ra e)
 ·cases e
theorem Xx:OpS C k X (cu .In) vIn:=fun c=>((Tn c.hu64 C.K c.K).or (Td c.hu C.K c.K)).imp fun x y H Q h=>by
 obtain ⟨φ,h,p,q,rh,rx,ry,po⟩:=h;obtain ⟨b,e,po⟩:=po.ofB;rcases wD rh rx ry e with ⟨d,a,ds,vs,rfl,h1,h2,h3,h4,rfl⟩ | ⟨a,o,rfl,g,rfl⟩
 ·exact .inl ⟨d,a,ds,vs,rfl,h1,h2,h3,h4,po.val rh rfl⟩
 ·exact .inr (.inr ⟨a,o,rfl,g,po.val rh rfl⟩)
theorem Pn:OpS C k X (cu .NotIn) wB:=fun c=>((J' c.hu64 C.K c.K).or (J7 c.hu C.K c.K)).imp fun x y H Q h=>by
 obtain ⟨φ,h,p,q,rh,rx,ry,po⟩:=h;obtain ⟨b,e,po⟩:=po.ofB;cases e':FL p q h with
 | none=>rw [e'] at e; cases e
 | some b'=>
  rw [e'] at e;cases e
  rcases wD rh rx ry e' with ⟨d,a,ds,vs,rfl,h1,h2,h3,h4,rfl⟩ | ⟨a,o,rfl,g,rfl⟩
  ·exact .inl ⟨d,a,ds,vs,rfl,h1,h2,h3,h4,po.val rh rfl⟩
  ·exact .inr (.inr ⟨a,o,rfl,g,po.val rh rfl⟩)
def kT:PV->Bool
 | .non=>true
 | _=>false
def vIs:PV->PV->PH->Rs PV:=fun x y h=>match y with
 | .non=>.ok (.bl (kT x)) h
 | .bl b=>match x with
  | .bl a=>.ok (.bl (a == b)) h
  | _=>.bad
 | _=>.bad
def wF:PV->PV->PH->Rs PV:=fun x y h=>match y with
 | .non=>.ok (.bl (!kT x)) h
 | .bl b=>match x with
  | .bl a=>.ok (.bl (!(a == b))) h
  | _=>.bad
 | _=>.bad
theorem RV.isNon {φ:List Addr} {H:Hp} {p:PV} {v:V} (r:RV C φ H p v):decide (v=.non)=kT p:=by
 cases p with
 | non=>cases r; rfl
 | tup xs=>obtain ⟨a,vs,rfl,_⟩:=r; rfl
 | ref n=>obtain ⟨a,rfl,_⟩:=r; rfl
 | fl xs=>obtain ⟨a,vs,rfl,_⟩:=r; rfl
 | _=>cases r; rfl
theorem VC:OpS C k X (cu .Is) vIs:=fun c=>(SN.or (fun pins s σ H x y v u Q I rx ry (h:∃ a b,x=.bl a/\y=.bl b/\Q (.bl (a == b)) H)=>by
  obtain ⟨a,b,rfl,rfl,q⟩:=h;cases rx; cases ry;exact PyProof.Rows.is_bool ⟨.bl _,H,I,rfl,q⟩)).imp fun x y H Q h=>by
 obtain ⟨φ,h,p,q,rh,rx,ry,po⟩:=h;unfold vIs at po;cases q with
 | non=>
  cases ry
  refine .inl ⟨rfl,?_⟩;rw [rx.isNon];exact po.val rh rfl
 | bl b=>
  cases p with
  | bl a=>cases rx; cases ry; exact .inr ⟨a,b,rfl,rfl,po.val rh rfl⟩
  | _=>exact po.elim
 | _=>exact po.elim
theorem Po:OpS C k X (cu .IsNot) wF:=fun c=>(OY.or (fun pins s σ H x y v u Q I rx ry (h:∃ a b,x=.bl a/\y=.bl b/\Q (.bl (!(a == b))) H)=>by
  obtain ⟨a,b,rfl,rfl,q⟩:=h;cases rx; cases ry;exact PyProof.Rows.isnot_bool ⟨.bl _,H,I,rfl,q⟩)).imp fun x y H Q h=>by
 obtain ⟨φ,h,p,q,rh,rx,ry,po⟩:=h;unfold wF at po;cases q with
 | non=>
  cases ry
  refine .inl ⟨rfl,?_⟩;rw [rx.isNon];exact po.val rh rfl
 | bl b=>
  cases p with
  | bl a=>cases rx; cases ry; exact .inr ⟨a,b,rfl,rfl,po.val rh rfl⟩
  | _=>exact po.elim
 | _=>exact po.elim
def tru (x:PV) (h:PH):Rs Bool:=match x with
 | .non=>.ok false h
 | .bl b=>.ok b h
 | .int i=>.ok (i != 0) h
 | .str y=>if y.length<=aw then .ok ((y.length:Int) != 0) h else .bad
 | .tup xs=>.ok (!xs.isEmpty) h
 | .ref n=>match aN h n with
  | some xs=>.ok (!xs.isEmpty) h
  | none=>match h[n]? with
   | some (.dK kvs)=>.ok (!kvs.isEmpty) h
   | _=>.bad
 | .fl xs=>.ok (!xs.isEmpty) h
 | .ty _=>.bad
theorem RVs.isEmpty {φ:List Addr} {H:Hp} {xs:List PV} {vs:List V} (r:RVs C φ H xs vs):(!vs.isEmpty)=!xs.isEmpty:=by
 cases xs <;> cases vs <;> first | rfl | exact r.elim
theorem bY.ite {φ:List Addr} {H:Hp} {c:Prop} [Decidable c] {r:Rs Bool} {Q:Bool->Hp->Prop} (h:bY C φ H (if c then r else .bad) Q):c/\bY C φ H r Q:=by
 by_cases hc:c
 ·rw [if_pos hc] at h; exact ⟨hc,h⟩
 ·rw [if_neg hc] at h; exact h.elim
theorem bY.val {φ:List Addr} {H:Hp} {b:Bool} {h:PH} {Q:Bool->Hp->Prop} (q:bY C φ H (.ok b h) Q) (rh:RH C φ H h):Q b H:=q φ H ax (Kp.refl H) rh
theorem Jj {φ:List Addr} {H:Hp} {h:PH} {p:PV} {v:V} {Q:Bool->Hp->Prop} (rh:RH C φ H h) (rv:RV C φ H p v) (po:bY C φ H (tru p h) Q):∃ b,Fi C.K v H b/\Q b H:=by
 unfold tru at po;cases p with
 | non=>cases rv; exact ⟨_,rfl,po.val rh⟩
 | bl b=>cases rv; exact ⟨_,rfl,po.val rh⟩
 | int i=>cases rv; exact ⟨_,rfl,po.val rh⟩
 | str y=>cases rv; exact ⟨_,⟨po.ite.1,rfl⟩,po.ite.2.val rh⟩
 | tup xs=>
  obtain ⟨a,vs,rfl,sa,ra⟩:=rv;exact ⟨_,.inr (.inl ⟨vs,sa,rfl⟩),by rw [ra.isEmpty]; exact po.val rh⟩
 | ref n=>
  obtain ⟨a,rfl,ha⟩:=rv;dsimp only at po;cases e:aN h n with
  | some xs=>
   rw [e] at po;obtain ⟨a2,vs,ha2,sa,ra⟩:=bN rh e;rw [ha] at ha2; cases ha2;exact ⟨_,.inl ⟨vs,sa,rfl⟩,by rw [ra.isEmpty]; exact po.val rh⟩
  | none=>
   rw [e] at po;dsimp only at po;split at po
   ·rename_i kvs hk;obtain ⟨ks,hH,rk⟩:=rh.at' n a _ ha hk;refine ⟨_,.inr (.inr ⟨ks,hH,rfl⟩),?_⟩;have:(!ks.isEmpty)=!kvs.isEmpty:=by cases rk <;> rfl
    rw [this];exact po.val rh
   ·exact po.elim
 | fl xs=>
  obtain ⟨a,vs,rfl,sa,ra⟩:=rv;exact ⟨_,.inl ⟨vs,sa.sq,rfl⟩,by rw [ra.isEmpty]; exact po.val rh⟩
 | ty n=>exact po.elim
end L2
namespace L2
open PySem PySem.Spec PyProof.Rows
variable {C:MC} {k:Nat} {X:Cx}
def bI (m:Me):Ev->PH->Rs Bool:=fun δ h=>(m δ h).bind tru
theorem FM {m:Me} {σ:St} {H:Hp} {Q:Bool->Hp->Prop} (h:rdB C (bI m) σ H Q):rd C m σ H fun v H1=>∃ b,Fi C.K v H1 b/\Q b H1:=by
 obtain ⟨φ,δ,h,rh,re,p⟩:=h;refine ⟨φ,δ,h,rh,re,(post.bindB p).imp ?_⟩;rintro v H1 ⟨φ1,x,h1,p1,t1,rh1,rv1,q1⟩;exact Jj rh1 rv1 q1
section
variable {a b e c':Expr} {ma mb mc m:Me} {g g':PV->PV->PH->Rs PV} {pos:Pos} {ta tb:Ev->PH->Rs Bool}
theorem Dp (h:SE C k X e m) (he:∀ whole,isTrue e X.env whole=(do let v <- whole; standAt e.pos; holding [v] (truthy v)):=by intro _; rfl):ST C k X e (bI m):=fun c=>
 (La (h c) he).imp fun σ H Q q=>by rw [c.K]; exact FM q
theorem bQ {op:CmpOp} (ho:OpS C k X (cu op) g) (ha:SE C k X a ma) (hb:SE C k X b mb) (hm:behindInMarks op b=false:=by first | exact L7 _ | rfl):ST C k X (.Compare a [op] [b] pos) (bI (aD g ma mb)):=fun c=>by
 intro pins s σ H Q I h;have h:=HI (FM h);refine wpAny_isTrue_Compare1 (thn (ha c pins s σ H _ I h) fun v s1 ⟨x,H1,I1,r1,q1⟩=>thn (hb c pins s1 σ H1 _ I1 q1) fun u s2 ⟨y,H2,I2,r2,q2⟩=>
  thn (ho c pins s2 σ H2 x y v u _ I2 r1 r2 q2) fun w s3 ⟨z,H3,I3,r3,q3⟩=>?_) hm
 rw [<- c.K] at q3;exact L' pins s3 σ H3 z w Q I3 r3 q3
def LM (z:PV) (h:PH):Rs PV:=match z with
 | .bl b=>.ok (.bl b) h
 | _=>.bad
def LN (g g':PV->PV->PH->Rs PV) (ma mb mc:Me):Me:=fun δ h=>(ma δ h).bind fun x h1=>(mb δ h1).bind fun y h2=>(g x y h2).bind fun z h3=>match z with
 | .bl true=>(mc δ h3).bind fun w h4=>(g' y w h4).bind LM
 | .bl false=>.ok (.bl false) h3
 | _=>.bad
theorem Tu {σ:St} {H:Hp} {Q:VK} (h:rd C (LN g g' ma mb mc) σ H Q):L8 (r2 C g) (r2 C g') (rd C ma) (rd C mb) (rd C mc) σ H fun v H1=>∃ b,v=.bl b/\Q v H1:=by
 obtain ⟨φ,δ,h,rh,re,p⟩:=h;refine ⟨φ,δ,h,rh,re,(post.bind p).imp ?_⟩;rintro v H1 ⟨φ1,x,h1,p1,t1,rh1,rv1,q1⟩;refine ⟨φ1,δ,h1,rh1,re.mono p1 t1,(post.bind q1).imp ?_⟩;rintro u H2 ⟨φ2,y,h2,p2,t2,rh2,rv2,q2⟩;refine ⟨φ2,h2,x,y,rh2,rv1.mono p2 t2,rv2,(post.bind q2).imp ?_⟩;rintro w H3 ⟨φ3,z,h3,p3,t3,rh3,rv3,q3⟩;cases z with
 | bl b=>
  cases rv3
  refine ⟨b,rfl,?_⟩;cases b with
  | false=>exact Fv ⟨false,rfl,q3.val rh3 rfl⟩
  | true=>
   refine Fw ⟨φ3,δ,h3,rh3,re.mono ((p1.trans p2).trans p3) ((t1.trans t2).trans t3),(post.bind q3).imp ?_⟩;rintro w4 H4 ⟨φ4,z4,h4,p4,t4,rh4,rv4,q4⟩;refine ⟨φ4,h4,y,z4,rh4,rv2.mono (p3.trans p4) (t3.trans t4),rv4,(post.bind q4).imp ?_⟩;rintro w5 H5 ⟨φ5,z5,h5,p5,t5,rh5,rv5,q5⟩;cases z5 with
   | bl b=>cases rv5; exact ⟨b,rfl,q5.val rh5 rfl⟩
   | _=>exact q5.elim
 | _=>exact q3.elim
theorem VD {op op':CmpOp} (ho:OpS C k X (cu op) g) (ho':OpS C k X (cu op') g') (ha:SE C k X a ma) (hb:SE C k X b mb) (hc:SE C k X c' mc) (hm:lastMarks [op,op'] [b,c']=false:=by with_unfolding_all rfl):
  ST C k X (.Compare a [op,op'] [b,c'] pos) (bI (LN g g' ma mb mc)):=fun c=>by
 intro pins s σ H Q I h;have h':=Tu (FM h);refine gx (L9 (ho c) (ho' c) (ha c) (hb c) (hc c) hm pins s σ H (fun b H1=>∃ b',Fi C.K (.bl b) H1 b'/\Q b' H1) I ?_) (fun b s1 ⟨H1,I1,b',(e:b'=b),q⟩=>⟨H1,I1,by rw [<- e]; exact q⟩) fun _ _ z=>z;obtain ⟨φ,δ,hh,rh,re,p⟩:=h';refine ⟨φ,δ,hh,rh,re,p.imp ?_⟩;rintro v H1 ⟨φ1,δ1,h1,rh1,re1,p1⟩;refine ⟨φ1,δ1,h1,rh1,re1,p1.imp ?_⟩;rintro u H2 ⟨φ2,h2,x,y,rh2,rx,ry,p2⟩;refine ⟨φ2,h2,x,y,rh2,rx,ry,p2.imp ?_⟩;rintro w H3 ⟨b,e,p3⟩;refine ⟨b,e,?_⟩;cases b with
 | false=>
  have:∃ b,V.bl false=V.bl b/\∃ b_1,Fi C.K (V.bl false) H3 b_1/\Q b_1 H3:=by simpa using p3
  obtain ⟨b,e1,q⟩:=this;exact Fv ⟨false,rfl,q⟩
 | true=>
  have p3:rd C mc σ H3 fun w' H4=>r2 C g' u w' H4 fun v H1=>∃ b,v=V.bl b/\∃ b_1,Fi C.K v H1 b_1/\Q b_1 H1:=by simpa using p3
  obtain ⟨φ3,δ3,h3,rh3,re3,p3⟩:=p3;refine Fw ⟨φ3,δ3,h3,rh3,re3,p3.imp ?_⟩;rintro w4 H4 ⟨φ4,h4,x4,y4,rh4,rx4,ry4,p4⟩;refine ⟨φ4,h4,x4,y4,rh4,rx4,ry4,p4.imp ?_⟩;rintro w5 H5 ⟨b,rfl,q⟩;exact ⟨b,rfl,q⟩
def Am (t:Ev->PH->Rs Bool):Ev->PH->Rs Bool:=fun δ h=>(t δ h).bind fun b h1=>.ok (!b) h1
def tU (ta tb:Ev->PH->Rs Bool):Ev->PH->Rs Bool:=fun δ h=>(ta δ h).bind fun b h1=>match b with
 | true=>tb δ h1
 | false=>.ok false h1
def FN (ta tb:Ev->PH->Rs Bool):Ev->PH->Rs Bool:=fun δ h=>(ta δ h).bind fun b h1=>match b with
 | true=>.ok true h1
 | false=>tb δ h1
theorem bY.imp {φ:List Addr} {H:Hp} {r:Rs Bool} {Q Q':Bool->Hp->Prop} (h:bY C φ H r Q) (i:∀ v H',Q v H'->Q' v H'):bY C φ H r Q':=by
 cases r with
 | ok a h'=>exact fun φ' H' p t rh=>i a H' (h φ' H' p t rh)
 | exc a h'=>exact h
 | bad=>exact h
theorem HM (h:ST C k X e ta):ST C k X (.UnaryOp .Not e pos) (Am ta):=fun c=>(Su (h c)).imp fun σ H Q q=>by
 obtain ⟨φ,δ,h,rh,re,p⟩:=q;refine ⟨φ,δ,h,rh,re,(bY.bindB p).imp ?_⟩;rintro b H1 ⟨φ1,h1,p1,t1,rh1,q1⟩;exact q1.val rh1
def SW (C:MC) (k:Nat) (X:Cx) (e:Expr) (m:Ev->PH->Rs Bool):Prop:=Cxt C k X->PW X e (rdB C m)
theorem SW.t (h:SW C k X e ta):ST C k X e ta:=fun c=>(h c).pt
theorem PW.imp {t t':TT} (h:PW X e t) (i:∀ σ H Q,t' σ H Q->t σ H Q):PW X e t':=fun w pins s σ H Q I q=>h w pins s σ H Q I (i σ H Q q)
theorem BA (ha:ST C k X a ta):SW C k X (.BoolOp .And [a] pos) ta:=fun c=>OR (ha c)
theorem LO (ha:ST C k X a ta):SW C k X (.BoolOp .Or [a] pos) ta:=fun c=>Sq (ha c)
theorem w_and {rest:List Expr} (ha:ST C k X a ta) (hb:SW C k X (.BoolOp .And (b :: rest) pos) tb):SW C k X (.BoolOp .And (a :: b :: rest) pos) (tU ta tb):=fun c=>PW.imp (Sr (ha c) (hb c)) fun σ H Q q=>by
 obtain ⟨φ,δ,h,rh,re,p⟩:=q;refine ⟨φ,δ,h,rh,re,(bY.bindB p).imp ?_⟩;rintro b H1 ⟨φ1,h1,p1,t1,rh1,q1⟩;cases b with
 | true=>exact Fw ⟨φ1,δ,h1,rh1,re.mono p1 t1,q1⟩
 | false=>exact Fv (q1.val rh1)
theorem w_or {rest:List Expr} (ha:ST C k X a ta) (hb:SW C k X (.BoolOp .Or (b :: rest) pos) tb):SW C k X (.BoolOp .Or (a :: b :: rest) pos) (FN ta tb):=fun c=>PW.imp (V1 (ha c) (hb c)) fun σ H Q q=>by
 obtain ⟨φ,δ,h,rh,re,p⟩:=q;refine ⟨φ,δ,h,rh,re,(bY.bindB p).imp ?_⟩;rintro b H1 ⟨φ1,h1,p1,t1,rh1,q1⟩;cases b with
 | true=>exact Fw (q1.val rh1)
 | false=>exact Fv ⟨φ1,δ,h1,rh1,re.mono p1 t1,q1⟩
def mIf (t:Ev->PH->Rs Bool) (ma mb:Me):Me:=fun δ h=>(t δ h).bind fun b h1=>match b with
 | true=>ma δ h1
 | false=>mb δ h1
theorem HN (ht:ST C k X c' ta) (ha:SE C k X a ma) (hb:SE C k X b mb):SE C k X (.IfExp c' a b pos) (mIf ta ma mb):=fun c=>(KZ (ht c) (ha c) (hb c)).imp fun σ H Q q=>by
 obtain ⟨φ,δ,h,rh,re,p⟩:=q;refine ⟨φ,δ,h,rh,re,(bY.bind p).imp ?_⟩;rintro b H1 ⟨φ1,h1,p1,t1,rh1,q1⟩;cases b with
 | true=>exact Fw ⟨φ1,δ,h1,rh1,re.mono p1 t1,q1⟩
 | false=>exact Fv ⟨φ1,δ,h1,rh1,re.mono p1 t1,q1⟩
end
theorem RVs.atI {φ:List Addr} {H:Hp} {xs:List PV} {vs:List V} {i:Int} {x:PV} (r:RVs C φ H xs vs) (e:L2.atI xs i=some x):∃ v,L2.atI vs i=some v/\RV C φ H x v:=by
 unfold L2.atI at e ⊢;rw [<- r.length];cases q:ixN xs.length i with
 | none=>rw [q] at e; cases e
 | some j=>
  rw [q] at e;exact r.at e
def ofO (o:Option PV) (h:PH):Rs PV:=match o with
 | some p=>.ok p h
 | none=>.bad
def vIx:PV->PV->PH->Rs PV:=fun x y h=>match x with
 | .str z=>(match y with
  | .int i=>if z.length<=aw then ofO ((atI z.cps.toList i).map fun c=>.str ⟨#[c]⟩) h else .bad
  | _=>.bad)
 | .tup xs=>(match y with
  | .int i=>ofO (atI xs i) h
  | _=>.bad)
 | .fl xs=>(match y with
  | .int i=>ofO (atI xs i) h
  | _=>.bad)
 | .ref n=>(match aN h n with
  | some xs=>(match y with
   | .int i=>ofO (atI xs i) h
   | _=>.bad)
  | none=>(match Do h n y with
   | some o=>ofO o h
   | none=>.bad))
 | _=>.bad
theorem post.ofO {φ:List Addr} {H:Hp} {h:PH} {o:Option PV} {Q:VK} (q:post C φ H (ofO o h) Q):∃ p,o=some p/\post C φ H (.ok p h) Q:=by
 cases o with
 | none=>exact q.elim
 | some b=>exact ⟨b,rfl,q⟩
theorem VE {x y:V} {H:Hp} {Q:VK} (h:r2 C vIx x y H Q):Vs C.K x y H Q:=by
 obtain ⟨φ,h,p,q,rh,rx,ry,po⟩:=h;unfold vIx at po;cases p with
 | str z=>
  cases rx
  cases q with
  | int i=>
   cases ry
   obtain ⟨hz,po⟩:=po.ite;obtain ⟨p,e,po⟩:=po.ofO;cases e':atI z.cps.toList i with
   | none=>rw [e'] at e; cases e
   | some c=>rw [e'] at e; cases e; exact ⟨hz,c,e',po.val rh rfl⟩
  | _=>exact po.elim
 | tup xs=>
  obtain ⟨a,vs,rfl,sa,ra⟩:=rx;cases q with
  | int i=>
   cases ry
   obtain ⟨p,e,po⟩:=po.ofO;obtain ⟨v,hv,rv⟩:=ra.atI e;exact .inl ⟨vs,i,v,rfl,.inr sa,hv,po.val rh rv⟩
  | _=>exact po.elim
 | fl xs=>
  obtain ⟨a,vs,rfl,sa,ra⟩:=rx;cases q with
  | int i=>
   cases ry
   obtain ⟨p,e,po⟩:=po.ofO;obtain ⟨v,hv,rv⟩:=ra.atI e;exact .inl ⟨vs,i,v,rfl,.inl sa.sq,hv,po.val rh rv⟩
  | _=>exact po.elim
 | ref n=>
  obtain ⟨a,rfl,ha⟩:=rx;dsimp only at po;cases e:aN h n with
  | some xs=>
   rw [e] at po;obtain ⟨a2,vs,ha2,sa,ra⟩:=bN rh e;rw [ha] at ha2; cases ha2;cases q with
   | int i=>
    cases ry
    obtain ⟨p,e,po⟩:=po.ofO;obtain ⟨v,hv,rv⟩:=ra.atI e;exact .inl ⟨vs,i,v,rfl,.inl sa,hv,po.val rh rv⟩
   | _=>exact po.elim
  | none=>
   rw [e] at po;dsimp only at po;cases e':Do h n q with
   | none=>rw [e'] at po; exact po.elim
   | some o=>
    rw [e'] at po;obtain ⟨p,eo,po⟩:=po.ofO;obtain ⟨o',g,_,hp⟩:=oB rh ha ry e';obtain ⟨w,rfl,rw'⟩:=hp p eo;exact .inr ⟨w,g,po.val rh rw'⟩
 | _=>exact po.elim
theorem nE {prog:Program} {w:World} {A:Around} {E:Value->Shared->Prop} {s:Shared} {t sl:Addr} {items:Array Value} {vl vu:Value} {lo hi:Option Int} {Q:Value->Shared->Prop} (ht:IsTup s.heap t items) (hs:s.heap.IsSliceOf sl vl vu .none) (pl:IsPart vl lo) (pu:IsPart vu hi)
  (hw:HT.sIx items.size 0 lo=0/\HT.sIx items.size items.size hi=items.size) (h:Q (.ref t) s):wpAny (model prog w) A (getItem (.ref t) (.ref sl)) Q E s:=by
 obtain ⟨os,hos,hcs,hds⟩:=id hs;have hTs:s.TypeIs (.ref sl) "slice" := ⟨os,hos,hcs⟩;unfold getItem
 try with_reducible refine dg ?_
 first | refine aa (ag ?_) | skip
 refine aa (wpAny_sequenceKey ht.typeIs (by decide) ?_);refine aa (j7 (name:=j3 "__getitem__") ht.typeIs dr
  (ja dr ht.typeIs entry_tuple_getitem ?_ (args_tuple_getitem _ _)))
 show wpAny _ _ (k9 (.ref t) >>= _) _ _ s
 refine aa (tupleItemsOf_ ht ?_);refine aa (mj hTs ?_);rw [if_pos (by decide)];refine aa (HT.sliceApplied_gen hs pl pu ?_);have hno:((((HT.sIx items.size 0 lo:Nat):Int) == 0 && (1:Int) == 1 && (HT.sIx items.size items.size hi - HT.sIx items.size 0 lo) == items.size)=true):=by
  rw [hw.1,hw.2]; simp
 show wpAny _ _ (if (((HT.sIx items.size 0 lo:Nat):Int) == 0 && (1:Int) == 1 && (HT.sIx items.size items.size hi - HT.sIx items.size 0 lo) == items.size)=true then _ else _) _ _ s
 rw [if_pos hno];refine aa ?_;unfold Builtin.Tuple.tupleIsExact;refine aa (mj ht.typeIs (ag ?_));rw [if_pos (by decide)];refine aa (jt ?_);exact ag ⟨_,rfl,ag h⟩
end L2
namespace L2
open PySem PySem.Spec PyProof.Rows
variable {C:MC} {k:Nat} {X:Cx}
def iT {α:Type} (xs:List α) (lo hi:Option Int):List α:=(xs.drop (HT.sIx xs.length 0 lo)).take (HT.sIx xs.length xs.length hi - HT.sIx xs.length 0 lo)
theorem RVs.cut {φ:List Addr} {H:Hp} {xs:List PV} {vs:List V} (r:RVs C φ H xs vs) (lo hi:Option Int):RVs C φ H (iT xs lo hi) (D6 vs lo hi):=by
 unfold iT D6;rw [<- r.length];exact (r.drop _).take _
def vSl:PV->Option Int->Option Int->PH->Rs PV:=fun x lo hi h=>match x with
 | .str z=>if z.length<=aw then .ok (.str (Txt.slice z lo hi)) h else .bad
 | .tup xs=>.ok (.tup (iT xs lo hi)) h
 | .ref n=>match aN h n with
  | some xs=>.ok (.ref h.length) (h++[.lst (iT xs lo hi)])
  | none=>.bad
 | .fl xs=>.ok (.ref h.length) (h++[.lst (iT xs lo hi)])
 | _=>.bad
def VF (K:af):V->Option Int->Option Int->Hp->VK->Prop:=fun x lo hi H Q=>∃ a xs,x=.ref a/\SqT K H a xs/\(HT.sIx xs.length 0 lo=0/\HT.sIx xs.length xs.length hi=xs.length)/\Q (.ref a) H
theorem LP:SlR X (VF X.K):=by
 intro pins s σ H x v vl vu lo hi sl Q I rx hs pl pu h;obtain ⟨a,xs,rfl,hx,hw,q⟩:=h;cases rx
 obtain ⟨its,r,ht,hz⟩:=I.tuple hx;have hlen:its.toArray.size=xs.length:=by rw [ar]; exact r.length.symm
 refine ⟨"tuple",_,dr.lookup,ht.typeIs,?_⟩;exact nE ht hs pl pu (by rw [hlen]; exact hw) ⟨.ref a,H,I,rfl,q⟩
theorem SlR.imp {r r':V->Option Int->Option Int->Hp->VK->Prop} (h:SlR X r) (i:∀ x lo hi H Q,r' x lo hi H Q->r x lo hi H Q):SlR X r':=fun pins s σ H x v vl vu lo hi sl Q I rx hs pl pu q=>h pins s σ H x v vl vu lo hi sl Q I rx hs pl pu (i x lo hi H Q q)
def r3 (C:MC) (g:PV->Option Int->Option Int->PH->Rs PV):V->Option Int->Option Int->Hp->VK->Prop:=fun x lo hi H Q=>∃ φ h p,RH C φ H h/\RV C φ H p x/\post C φ H (g p lo hi h) Q
theorem Tv (hK:X.K=C.K):SlR X (r3 C vSl):=by
 have e:SlR X (fun x lo hi H Q=>Vq x lo hi H Q\/Vf C.K x lo hi H Q\/Vi C.K x lo hi H Q\/VF C.K x lo hi H Q):=by rw [<- hK]; exact T9.or (SX.or (P5.or LP))
 refine e.imp fun x lo hi H Q h=>?_;obtain ⟨φ,h,p,rh,rv,po⟩:=h;unfold vSl at po;cases p with
 | str z=>cases rv; exact .inl ⟨z,rfl,po.ite.1,po.ite.2.val rh rfl⟩
 | tup xs=>
  obtain ⟨a,vs,rfl,sa,ra⟩:=rv
  by_cases hw:HT.sIx vs.length 0 lo=0/\HT.sIx vs.length vs.length hi=vs.length
  ·refine .inr (.inr (.inr ⟨a,vs,rfl,sa,hw,po.val rh ⟨a,vs,rfl,sa,?_⟩⟩));have e:iT xs lo hi=xs:=by
    unfold iT;rw [ra.length,hw.1,hw.2,List.drop_zero,Nat.sub_zero,<- ra.length,iu]
   rw [e];exact ra
  ·exact .inr (.inl ⟨a,vs,rfl,sa,hw,fun p hp=>po.tnew rh (ra.cut lo hi) hp⟩)
 | ref n=>
  obtain ⟨a,rfl,ha⟩:=rv;dsimp only at po;cases e:aN h n with
  | none=>rw [e] at po; exact po.elim
  | some xs=>
   rw [e] at po;obtain ⟨a2,vs,ha2,sa,ra⟩:=bN rh e;rw [ha] at ha2; cases ha2;exact .inr (.inr (.inl ⟨a,vs,rfl,sa,fun p hp=>po.lnew rh (ra.cut lo hi) hp⟩))
 | fl xs=>
  obtain ⟨a,vs,rfl,sa,ra⟩:=rv;exact .inr (.inr (.inl ⟨a,vs,rfl,sa.sq,fun p hp=>po.lnew rh (ra.cut lo hi) hp⟩))
 | _=>exact po.elim
abbrev Mo:=Ev->PH->Rs (Option Int)
def tV (C:MC) (φ:List Addr) (H:Hp) (r:Rs (Option Int)) (Q:Option Int->Hp->Prop):Prop:=match r with
 | .ok b h=>∀ φ' H',φ<+:φ'->Kp H H'->RH C φ' H' h->Q b H'
 | .exc x h=>∀ φ' H',φ<+:φ'->Kp H H'->RH C φ' H' h->C.ex φ' H' x
 | .bad=>False
def rdO (C:MC) (m:Mo):TO:=fun σ H Q=>∃ φ δ h,RH C φ H h/\RE C φ H δ σ/\tV C φ H (m δ h) Q
def SO (C:MC) (k:Nat) (X:Cx) (e:Option Expr) (m:Mo):Prop:=Cxt C k X->PO X e (rdO C m)
def BB:Mo:=fun _ h=>.ok none h
def mP (m:Me):Mo:=fun δ h=>(m δ h).bind fun x h1=>match x with
 | .int i=>.ok (some i) h1
 | _=>.bad
theorem FO:SO C k X none BB:=fun c pins s σ H Q I h=>by
 obtain ⟨φ,δ,h,rh,re,p⟩:=h;exact P2 pins s σ H Q I (p φ H ax (Kp.refl H) rh)
theorem wG {e:Expr} {m:Me} (h:SE C k X e m):SO C k X (some e) (mP m):=fun c pins s σ H Q I q=>by
 refine Lo (h c) pins s σ H Q I ?_;obtain ⟨φ,δ,h,rh,re,p⟩:=q;refine ⟨φ,δ,h,rh,re,?_⟩;unfold mP at p;cases e':m δ h with
 | ok x h1=>
  rw [e'] at p;intro φ' v H' p' t' rh' rv';cases x with
  | int i=>cases rv'; exact p φ' H' p' t' rh'
  | _=>exact p.elim
 | exc x h1=>rw [e'] at p; exact p
 | bad=>rw [e'] at p; exact p
def mSl (me:Me) (ml mh:Mo):Me:=fun δ h=>(me δ h).bind fun x h1=>(ml δ h1).bind fun l h2=>(mh δ h2).bind fun u h3=>vSl x l u h3
theorem tV.bind {φ:List Addr} {H:Hp} {r:Rs (Option Int)} {f:Option Int->PH->Rs PV} {Q:VK} (h:post C φ H (r.bind f) Q):tV C φ H r fun b H1=>∃ φ1 h1,φ<+:φ1/\Kp H H1/\RH C φ1 H1 h1/\post C φ1 H1 (f b h1) Q:=by
 cases r with
 | ok a h'=>exact fun φ' H' p t rh=>⟨φ',h',p,t,rh,post.weak p t h⟩
 | exc a h'=>exact h
 | bad=>exact h
theorem tV.imp {φ:List Addr} {H:Hp} {r:Rs (Option Int)} {Q Q':Option Int->Hp->Prop} (h:tV C φ H r Q) (i:∀ v H',Q v H'->Q' v H'):tV C φ H r Q':=by
 cases r with
 | ok a h'=>exact fun φ' H' p t rh=>i a H' (h φ' H' p t rh)
 | exc a h'=>exact h
 | bad=>exact h
theorem Pp {e:Expr} {lo hi:Option Expr} {me:Me} {ml mh:Mo} {p2 pos:Pos} (he:SE C k X e me) (hl:SO C k X lo ml) (hh:SO C k X hi mh):SE C k X (.Subscript e (.Slice lo hi none p2) pos) (mSl me ml mh):=fun c=>
 (Lf (Tv c.K) (he c) (hl c) (hh c)).imp fun σ H Q h=>by
  obtain ⟨φ,δ,h,rh,re,p⟩:=h;refine ⟨φ,δ,h,rh,re,(post.bind p).imp ?_⟩;rintro v H1 ⟨φ1,x,h1,p1,t1,rh1,rv1,q1⟩;refine ⟨φ1,δ,h1,rh1,re.mono p1 t1,(tV.bind q1).imp ?_⟩;rintro l H2 ⟨φ2,h2,p2,t2,rh2,q2⟩;refine ⟨φ2,δ,h2,rh2,re.mono (p1.trans p2) (t1.trans t2),(tV.bind q2).imp ?_⟩;rintro u H3 ⟨φ3,h3,p3,t3,rh3,q3⟩;exact ⟨φ3,h3,x,rh3,rv1.mono (p2.trans p3) (t2.trans t3),q3⟩
abbrev Ma:=Ev->PH->Rs (List PV)
def aI:Ma:=fun _ h=>.ok [] h
def aB (m:Me) (ms:Ma):Ma:=fun δ h=>(m δ h).bind fun x h1=>(ms δ h1).bind fun xs h2=>.ok (x :: xs) h2
theorem PA.imp {es:List Expr} {t t':TA} (h:PA X es t) (i:∀ σ H Q,t' σ H Q->t σ H Q):PA X es t':=fun pos pins s σ H Q I q=>h pos pins s σ H Q I (i σ H Q q)
theorem aH:SA C k X [] aI:=fun c=>Bf.imp fun σ H Q h=>by
 obtain ⟨φ,δ,h,rh,re,p⟩:=h;exact p φ [] H ax (Kp.refl H) rh trivial
theorem postA.imp {φ:List Addr} {H:Hp} {r:Rs (List PV)} {Q Q':List V->Hp->Prop} (h:postA C φ H r Q) (i:∀ v H',Q v H'->Q' v H'):postA C φ H r Q':=by
 cases r with
 | ok a h'=>exact fun φ' v H' p t rh rv=>i v H' (h φ' v H' p t rh rv)
 | exc a h'=>exact h
 | bad=>exact h
theorem aC {e:Expr} {es:List Expr} {m:Me} {ms:Ma} (he:SE C k X e m) (hs:SA C k X es ms) (hh:cf (e :: es) X.env=(false,eval e X.env) :: cf es X.env:=by rfl):SA C k X (e :: es) (aB m ms):=fun c=>(uX (he c) (hs c) hh).imp fun σ H Q h=>by
 obtain ⟨φ,δ,h,rh,re,p⟩:=h;refine ⟨φ,δ,h,rh,re,(post.bindA p).imp ?_⟩;rintro v H1 ⟨φ1,x,h1,p1,t1,rh1,rv1,q1⟩;refine ⟨φ1,δ,h1,rh1,re.mono p1 t1,(postA.bindA q1).imp ?_⟩;rintro vs H2 ⟨φ2,xs,h2,p2,t2,rh2,rv2,q2⟩;exact q2 φ2 (v :: vs) H2 ax (Kp.refl H2) rh2 ⟨rv1.mono p2 t2,rv2⟩
def jQ (ms:Ma):Me:=fun δ h=>(ms δ h).bind fun xs h1=>if xs.length<=aw then .ok (.tup xs) h1 else .bad
def rZ (ms:Ma):Me:=fun δ h=>(ms δ h).bind fun xs h1=>if xs.length<=aw then .ok (.ref h1.length) (h1++[.lst xs]) else .bad
theorem kU {es:List Expr} {ms:Ma} {x1} {pos:Pos} (hs:SA C k X es ms):SE C k X (.Tuple es x1 pos) (jQ ms):=fun c=>(SR (hs c)).imp fun σ H Q h=>by
 obtain ⟨φ,δ,h,rh,re,p⟩:=h;refine ⟨φ,δ,h,rh,re,(postA.bind p).imp ?_⟩;rintro vs H1 ⟨φ1,xs,h1,p1,t1,rh1,rv1,q1⟩;exact ⟨by rw [<- rv1.length]; exact q1.ite.1,fun p hp=>q1.ite.2.tnew rh1 rv1 hp⟩
theorem pR {es:List Expr} {ms:Ma} {pos:Pos} (hs:SA C k X es ms):SE C k X (.List es pos) (rZ ms):=fun c=>(SS (hs c)).imp fun σ H Q h=>by
 obtain ⟨φ,δ,h,rh,re,p⟩:=h;refine ⟨φ,δ,h,rh,re,(postA.bind p).imp ?_⟩;rintro vs H1 ⟨φ1,xs,h1,p1,t1,rh1,rv1,q1⟩;exact ⟨by rw [<- rv1.length]; exact q1.ite.1,fun p hp=>q1.ite.2.lnew rh1 rv1 hp⟩
def wH:Me:=fun _ h=>.ok (.ref h.length) (h++[.dK []])
theorem BC {pos:Pos}:SE C k X (.Dict [] [] pos) wH:=fun c=>Lk.imp fun σ H Q h=>by
 obtain ⟨φ,δ,h,rh,re,p⟩:=h;intro a ha;exact p (φ++[a]) (.ref a) _ (c7 _ _) (Kp.new ha) (rh.new ha ⟨[],bH,.nil⟩) ⟨a,rfl,by rw [<- rh.len]; simp⟩
def mCB (g:List PV->PH->Rs PV) (ms:Ma):Me:=fun δ h=>(ms δ h).bind g
theorem S5 {g:List PV->PH->Rs PV} {ms:Ma} {σ:St} {H:Hp} {Q:VK} (h:rd C (mCB g ms) σ H Q):tCB (rL C g) (rdA C ms) σ H Q:=by
 obtain ⟨φ,δ,h,rh,re,p⟩:=h;refine ⟨φ,δ,h,rh,re,(postA.bind p).imp ?_⟩;rintro vs H1 ⟨φ1,xs,h1,p1,t1,rh1,rv1,q1⟩;exact ⟨φ1,h1,xs,rh1,rv1,q1⟩
section
variable {x:Str} {p pos:Pos} {e:Expr} {es:List Expr} {ms:Ma} {id T:String} {g:List PV->PH->Rs PV}
theorem bR (hc:hV C k X (.builtin id) g) (hv:mf x=some (.builtin id)) (ha:SA C k X (e :: es) ms) (hb:x∈C.bs:=by decide) (hg:Gl X x:=by rfl) (hn:x≠"__name__" := by decide) (hdb:(x == ("__debug__" : Str))=false:=by decide)
  (he:cf (e :: es) X.env=(false,eval e X.env) :: cf es X.env:=by rfl) (hpl:(backTo pos (cf es X.env)).any (·.1)=false:=by rfl):SE C k X (.Call (.Name x p) (e :: es) [] pos) (mCB g ms):=fun c=>
 (Ld (hc c) hg (c.bn x hb) hv (ha c) hn hdb he hpl).imp fun σ H Q h=>S5 h
theorem pT (hc:hV C k X (.type T) g) (hv:mf x=some (.type T)) (ha:SA C k X (e :: es) ms) (hb:x∈C.bs:=by decide) (hg:Gl X x:=by rfl) (hn:x≠"__name__" := by decide) (hdb:(x == ("__debug__" : Str))=false:=by decide)
  (he:cf (e :: es) X.env=(false,eval e X.env) :: cf es X.env:=by rfl) (hpl:(backTo pos (cf es X.env)).any (·.1)=false:=by rfl):SE C k X (.Call (.Name x p) (e :: es) [] pos) (mCB g ms):=fun c=>
 (IY (hc c) hg (c.bn x hb) hv (ha c) hn hdb he hpl).imp fun σ H Q h=>S5 h
def spM (C:MC) (n:Nat) (f:Fn):Sp:=fun vs H Q _=>∃ φ h ps,RH C φ H h/\RVs C φ H ps vs/\ps.length=n/\post C φ H (f ps h) Q
def bE (n:Nat) (f:Fn) (ms:Ma):Me:=fun δ h=>(ms δ h).bind fun ps h1=>if ps.length=n then f ps h1 else .bad
theorem s_call {st:Stmt} {a:Addr} {fd:c3} {ps:List Str} {j n:Nat} {f:Fn} (D:Def C.K X.mg x st a fd ps) (G:aU X.prog X.w C.K X.mg X.base CX0 j a fd ps (spM C n f)) (ha:SA C k X (e :: es) ms) (hj:j<=k:=by decide)
  (hg:Gl X x:=by rfl) (hdb:(x == ("__debug__" : Str))=false:=by decide) (he:cf (e :: es) X.env=(false,eval e X.env) :: cf es X.env:=by rfl) (hpl:(backTo pos (cf es X.env)).any (·.1)=false:=by rfl):
  SE C k X (.Call (.Name x p) (e :: es) [] pos) (bE n f ms):=fun c=>by
 have e1:=c.K;have D':Def X.K X.mg x st a fd ps:=by rw [e1]; exact D
 have G':aU X.prog X.w X.K X.mg X.base CX0 j a fd ps (spM C n f):=by rw [e1]; exact G
 refine (Vx D' G' (c.room.mono hj) (ha c) hg hdb he hpl).imp fun σ H Q h=>?_;obtain ⟨φ,δ,h,rh,re,p⟩:=h;refine ⟨φ,δ,h,rh,re,(postA.bind p).imp ?_⟩;rintro vs H1 ⟨φ1,xs,h1,p1,t1,rh1,rv1,q1⟩;refine ⟨φ1,h1,xs,rh1,by rw [my]; exact rv1,q1.ite.1,q1.ite.2⟩
end
def gX:List PV->PH->Rs PV:=fun xs h=>match xs with
 | [.str y]=>if y.length<=aw then .ok (.int y.length) h else .bad
 | [.tup ys]=>.ok (.int ys.length) h
 | [.fl ys]=>.ok (.int ys.length) h
 | [.ref n]=>match aN h n with
  | some ys=>.ok (.int ys.length) h
  | none=>match h[n]? with
   | some (.dK kvs)=>.ok (.int kvs.length) h
   | _=>.bad
 | _=>.bad
theorem RVs.one {φ:List Addr} {H:Hp} {x:PV} {vs:List V} (r:RVs C φ H [x] vs):∃ v,vs=[v]/\RV C φ H x v:=by
 match vs,r with
 | [v],⟨h,_⟩=>exact ⟨v,rfl,h⟩
 | [],h=>exact h.elim
 | _ :: _ :: _,⟨_,h⟩=>exact h.elim
theorem RVs.two {φ:List Addr} {H:Hp} {x y:PV} {vs:List V} (r:RVs C φ H [x,y] vs):∃ v w,vs=[v,w]/\RV C φ H x v/\RV C φ H y w:=by
 match vs,r with
 | [v,w],⟨h,h',_⟩=>exact ⟨v,w,rfl,h,h'⟩
 | [],h=>exact h.elim
 | [_],⟨_,h⟩=>exact h.elim
 | _ :: _ :: _ :: _,⟨_,_,h⟩=>exact h.elim
theorem nL:hV C k X (.builtin "len") gX:=fun c=>(J8 C.K c.K).imp fun vs H Q h=>by
 obtain ⟨φ,h,ps,rh,rv,po⟩:=h;unfold gX at po;split at po
 ·obtain ⟨v,rfl,rx⟩:=rv.one;cases rx
  exact ⟨po.ite.1,po.ite.2.val rh rfl⟩
 ·obtain ⟨v,rfl,rx⟩:=rv.one;obtain ⟨a,vs,rfl,sa,ra⟩:=rx;exact .inl ⟨vs,.inr sa,by rw [<- ra.length]; exact po.val rh rfl⟩
 ·obtain ⟨v,rfl,rx⟩:=rv.one;obtain ⟨a,vs,rfl,sa,ra⟩:=rx;exact .inl ⟨vs,.inl sa.sq,by rw [<- ra.length]; exact po.val rh rfl⟩
 ·rename_i n;obtain ⟨v,rfl,rx⟩:=rv.one;obtain ⟨a,rfl,ha⟩:=rx;split at po
  ·rename_i ys e;obtain ⟨a2,vs,ha2,sa,ra⟩:=bN rh e;rw [ha] at ha2; cases ha2;exact .inl ⟨vs,.inl sa,by rw [<- ra.length]; exact po.val rh rfl⟩
  ·split at po
   ·rename_i kvs hk;obtain ⟨ks,hH,rk⟩:=rh.at' n a _ ha hk;refine .inr ⟨ks,hH,?_⟩;have:ks.length=kvs.length:=(ee rk).symm;rw [this];exact po.val rh rfl
   ·exact po.elim
 ·exact po.elim
def sA:List PV->PH->Rs PV:=fun xs h=>match xs with
 | [.tup ys]=>.ok (.tup ys) h
 | [.fl ys]=>.ok (.tup ys) h
 | [.ref n]=>match aN h n with
  | some ys=>.ok (.tup ys) h
  | none=>.bad
 | _=>.bad
theorem HP:hV C k X (.type "tuple") sA:=fun c=>(Dc C.K c.K).imp fun vs H Q h=>by
 obtain ⟨φ,h,ps,rh,rv,po⟩:=h;unfold sA at po;split at po
 ·obtain ⟨v,rfl,rx⟩:=rv.one;obtain ⟨a,vs,rfl,sa,ra⟩:=rx;exact ⟨a,vs,rfl,.inr ⟨sa,po.val rh ⟨a,vs,rfl,sa,ra⟩⟩⟩
 ·obtain ⟨v,rfl,rx⟩:=rv.one;obtain ⟨a,vs,rfl,sa,ra⟩:=rx;exact ⟨a,vs,rfl,.inl ⟨sa.sq,fun p hp=>po.tnew rh ra hp⟩⟩
 ·rename_i n;obtain ⟨v,rfl,rx⟩:=rv.one;obtain ⟨a,rfl,ha⟩:=rx;split at po
  ·rename_i ys e;obtain ⟨a2,vs,ha2,sa,ra⟩:=bN rh e;rw [ha] at ha2; cases ha2;exact ⟨a,vs,rfl,.inl ⟨sa,fun p hp=>po.tnew rh ra hp⟩⟩
  ·exact po.elim
 ·exact po.elim
def Dq:List PV->PH->Rs PV:=fun xs h=>match xs with
 | [.tup ys]=>.ok (.ref h.length) (h++[.lst ys])
 | [.fl ys]=>.ok (.ref h.length) (h++[.lst ys])
 | [.ref n]=>match aN h n with
  | some ys=>.ok (.ref h.length) (h++[.lst ys])
  | none=>.bad
 | _=>.bad
theorem Tw:hV C k X (.type "list") Dq:=fun c=>(Fz C.K c.K).imp fun vs H Q h=>by
 obtain ⟨φ,h,ps,rh,rv,po⟩:=h;unfold Dq at po;split at po
 ·obtain ⟨v,rfl,rx⟩:=rv.one;obtain ⟨a,vs,rfl,sa,ra⟩:=rx;exact ⟨a,vs,rfl,.inr sa,fun p hp=>po.lnew rh ra hp⟩
 ·obtain ⟨v,rfl,rx⟩:=rv.one;obtain ⟨a,vs,rfl,sa,ra⟩:=rx;exact ⟨a,vs,rfl,.inl sa.sq,fun p hp=>po.lnew rh ra hp⟩
 ·rename_i n;obtain ⟨v,rfl,rx⟩:=rv.one;obtain ⟨a,rfl,ha⟩:=rx;split at po
  ·rename_i ys e;obtain ⟨a2,vs,ha2,sa,ra⟩:=bN rh e;rw [ha] at ha2; cases ha2;exact ⟨a,vs,rfl,.inl sa,fun p hp=>po.lnew rh ra hp⟩
  ·exact po.elim
 ·exact po.elim
def Pq:List PV->PH->Rs PV:=fun xs h=>match xs with
 | [.int i,.int j]=>.ok (.int (if j > i then j else i)) h
 | _=>.bad
theorem VG:hV C k X (.builtin "max") Pq:=fun c=>(J9 c.calm).imp fun vs H Q h=>by
 obtain ⟨φ,h,ps,rh,rv,po⟩:=h;unfold Pq at po;split at po
 ·obtain ⟨v,w,rfl,rx,ry⟩:=rv.two;cases rx; cases ry;exact po.val rh rfl
 ·exact po.elim
end L2
namespace L2
open PySem PySem.Spec PyProof.Rows
variable {C:MC} {k:Nat} {X:Cx}
def Rs.fl {α:Type} (r:Rs α) (f:α->PH->Fl):Fl:=match r with
 | .ok a h=>f a h
 | .exc x h=>.exc x h
 | .bad=>.bad
@[simp] theorem Rs.fl_ok {α:Type} (a:α) (h:PH) (f:α->PH->Fl):(Rs.ok a h).fl f=f a h:=(rfl)
@[simp] theorem Rs.fl_exc {α:Type} (x:PX) (h:PH) (f:α->PH->Fl):(Rs.exc x h:Rs α).fl f=.exc x h:=(rfl)
@[simp] theorem Rs.fl_bad {α:Type} (f:α->PH->Fl):(Rs.bad:Rs α).fl f=.bad:=(rfl)
section
variable {φ:List Addr} {H:Hp}
theorem post.fl {r:Rs PV} {f:PV->PH->Fl} {D:Ends} (h:cG C φ H (r.fl f) D):post C φ H r fun v H1=>∃ φ1 p h1,φ<+:φ1/\Kp H H1/\RH C φ1 H1 h1/\RV C φ1 H1 p v/\cG C φ1 H1 (f p h1) D:=by
 cases r with
 | ok a h'=>exact fun φ' v H' p t rh rv=>⟨φ',a,h',p,t,rh,rv,cG.weak p t h⟩
 | exc a h'=>exact h
 | bad=>exact h
theorem bY.fl {r:Rs Bool} {f:Bool->PH->Fl} {D:Ends} (h:cG C φ H (r.fl f) D):bY C φ H r fun b H1=>∃ φ1 h1,φ<+:φ1/\Kp H H1/\RH C φ1 H1 h1/\cG C φ1 H1 (f b h1) D:=by
 cases r with
 | ok a h'=>exact fun φ' H' p t rh=>⟨φ',h',p,t,rh,cG.weak p t h⟩
 | exc a h'=>exact h
 | bad=>exact h
theorem cG.nx {δ:Ev} {h:PH} {D:Ends} {σ:St} (q:cG C φ H (.nx δ h) D) (rh:RH C φ H h) (re:RE C φ H δ σ):D.nx σ H:=q φ σ H ax (Kp.refl H) rh re
theorem cG.rt {p:PV} {h:PH} {D:Ends} {v:V} (q:cG C φ H (.rt p h) D) (rh:RH C φ H h) (rv:RV C φ H p v):D.rt v H:=q φ v H ax (Kp.refl H) rh rv
end
abbrev Mg:=PV->Ev->Option Ev
abbrev Mgs:=List PV->Ev->Option Ev
def rdG (C:MC) (t:Mg):TG:=fun v σ H Q=>∃ φ δ h p δ',RH C φ H h/\RE C φ H δ σ/\RV C φ H p v/\t p δ=some δ'/\∀ σ',RE C φ H δ' σ'->Q σ' H
def Xy (C:MC) (t:Mgs):TGs:=fun vs σ H Q=>∃ φ δ h ps δ',RH C φ H h/\RE C φ H δ σ/\RVs C φ H ps vs/\t ps δ=some δ'/\∀ σ',RE C φ H δ' σ'->Q σ' H
def SG (C:MC) (k:Nat) (X:Cx) (e:Expr) (t:Mg):Prop:=Cxt C k X->PG X e (rdG C t)
def SGs (C:MC) (k:Nat) (X:Cx) (es:List Expr) (t:Mgs):Prop:=Cxt C k X->PGs X es (Xy C t)
def gN (i:Nat):Mg:=fun p δ=>some (δ.set i (some p))
def gNl:Mgs:=fun ps δ=>match ps with
 | []=>some δ
 | _ :: _=>none
def gCn (t:Mg) (u:Mgs):Mgs:=fun ps δ=>match ps with
 | p :: r=>(t p δ).bind (u r)
 | []=>none
def gTp (n:Nat) (u:Mgs):Mg:=fun p δ=>match p with
 | .tup ps=>if ps.length=n then u ps δ else none
 | _=>none
theorem PG.imp {e:Expr} {t t':TG} (h:PG X e t) (i:∀ v σ H Q,t' v σ H Q->t v σ H Q):PG X e t':=fun pins s σ H v u Q I r q=>h pins s σ H v u Q I r (i v σ H Q q)
theorem PGs.imp {es:List Expr} {t t':TGs} (h:PGs X es t) (i:∀ v σ H Q,t' v σ H Q->t v σ H Q):PGs X es t':=fun pins s σ H v u Q I r q=>h pins s σ H v u Q I r (i v σ H Q q)
theorem aP {i:Nat} {x:Str} {pos:Pos} (hN:X.N.Nodup) (hi:X.N[i]?=some x:=by rfl) (hx:Loc X.env.scope x:=by first | exact Or.inl rfl | exact Or.inr rfl) (hf:X.fn x=true\/X.env.scope.names.lookup x=some .local:=by first | exact .inl rfl | exact .inr rfl):SG C k X (.Name x pos) (gN i):=fun c=>
 (OV hN hi hx hf).imp fun v σ H Q h=>by
  obtain ⟨φ,δ,h,p,δ',rh,re,rv,e,q⟩:=h;cases e
  exact q _ (re.set rv i)
theorem wI:SGs C k X [] gNl:=fun c=>OW.imp fun v σ H Q h=>by
 obtain ⟨φ,δ,h,ps,δ',rh,re,rv,e,q⟩:=h;cases ps with
 | nil=>
  cases e
  cases v with
  | nil=>exact ⟨rfl,q σ re⟩
  | cons=>exact rv.elim
 | cons=>cases e
theorem dA {e:Expr} {es:List Expr} {t:Mg} {u:Mgs} (h1:SG C k X e t) (h2:SGs C k X es u) (hs:(i9 (e :: es) X.env).map (·.2)=assign e X.env :: (i9 es X.env).map (·.2):=by rfl):SGs C k X (e :: es) (gCn t u):=fun c=>
 (L3 (h1 c) (h2 c) hs).imp fun vs σ H Q h=>by
  obtain ⟨φ,δ,h,ps,δ',rh,re,rv,e,q⟩:=h;cases ps with
  | nil=>cases e
  | cons p r=>
   cases vs with
   | nil=>exact rv.elim
   | cons v vs=>
    obtain ⟨δ1,e1,e2⟩:=Option.bind_eq_some_iff.mp (show (t p δ).bind (u r)=some δ' from e)
    exact ⟨v,vs,rfl,φ,δ,h,p,δ1,rh,re,rv.1,e1,fun σ' re'=>⟨φ,δ1,h,r,δ',rh,re',rv.2,e2,q⟩⟩
theorem wJ {es:List Expr} {j:Nat} {u:Mgs} {n:Nat} {pos:Pos} (h:SGs C k X es u) (hn:(i9 es X.env).length=n:=by rfl) (hst:(i9 es X.env).findIdx? (·.1)=none:=by rfl):SG C k X (.Tuple es j pos) (gTp n u):=fun c=>
 (gT C.K c.K c.calm (h c) hn hst).imp fun v σ H Q h=>by
  obtain ⟨φ,δ,h,p,δ',rh,re,rv,e,q⟩:=h;cases p with
  | tup ps=>
   obtain ⟨a,vs,rfl,sa,ra⟩:=rv
   by_cases hl:ps.length=n
   ·have e':u ps δ=some δ':=by
     have:(if ps.length=n then u ps δ else none)=some δ':=e;rw [if_pos hl] at this;exact this
    exact ⟨a,vs,rfl,sa,by rw [<- ra.length]; exact hl,φ,δ,h,ps,δ',rh,re,ra,e',q⟩
   ·have:(if ps.length=n then u ps δ else none)=some δ':=e;rw [if_neg hl] at this;cases this
  | _=>cases e
theorem PS.imp {st:Stmt} {t t':TS} (h:PS X st t) (i:∀ D σ H,t' D σ H->t D σ H):PS X st t':=fun pins s σ H D I q=>h pins s σ H D I (i D σ H q)
theorem PSs.imp {st:List Stmt} {t t':TS} (h:PSs X st t) (i:∀ D σ H,t' D σ H->t D σ H):PSs X st t':=fun pins s σ H D I q=>h pins s σ H D I (i D σ H q)
def aZ (a b:Ms):Ms:=fun δ h=>match a δ h with
 | .nx δ1 h1=>b δ1 h1
 | r=>r
def kG:Ms:=fun δ h=>.nx δ h
def Xz:Ms:=fun δ h=>.bk δ h
def Tx:Ms:=fun δ h=>.ct δ h
def bO (i:Nat) (m:Me):Ms:=fun δ h=>(m δ h).fl fun p h1=>.nx (δ.set i (some p)) h1
def Jk (m:Me) (t:Mg):Ms:=fun δ h=>(m δ h).fl fun p h1=>match t p δ with
 | some δ'=>.nx δ' h1
 | none=>.bad
def Dr (m:Me):Ms:=fun δ h=>(m δ h).fl fun _ h1=>.nx δ h1
def cB (m:Me):Ms:=fun δ h=>(m δ h).fl fun p h1=>.rt p h1
def VH:Ms:=fun _ h=>.rt .non h
def iD (t:Ev->PH->Rs Bool) (a b:Ms):Ms:=fun δ h=>(t δ h).fl fun c h1=>match c with
 | true=>a δ h1
 | false=>b δ h1
section
variable {st:Stmt} {rest:List Stmt} {a b:Ms} {e:Expr} {m:Me} {pos:Pos}
theorem dB:SSs C k X [] kG:=fun c=>OS.imp fun D σ H h=>by
 obtain ⟨φ,δ,h,rh,re,p⟩:=h;exact p.nx rh re
theorem Tz {φ:List Addr} {H:Hp} {r:Fl} {b:Ms} {D:Ends} (h:cG C φ H (match r with | .nx δ1 h1=>b δ1 h1 | r=>r) D):cG C φ H r { D with nx:=rdS C b D }:=by
 cases r with
 | nx δ h'=>exact fun φ' σ H' p t rh re=>⟨φ',δ,h',rh,re,cG.weak p t h⟩
 | rt p h'=>exact h
 | bk δ h'=>exact h
 | ct δ h'=>exact h
 | exc x h'=>exact h
 | bad=>exact h
theorem aF (h1:SSt C k X st a) (h2:SSs C k X rest b):SSs C k X (st :: rest) (aZ a b):=fun c=>(L0 (h1 c) (h2 c)).imp fun D σ H h=>by
 obtain ⟨φ,δ,h,rh,re,p⟩:=h;exact ⟨φ,δ,h,rh,re,Tz p⟩
theorem aJ (h1:SSt C k X st a):SSs C k X [st] a:=fun c=>OT (h1 c)
theorem VI:SSt C k X (.Continue pos) Tx:=fun c=>D2.imp fun D σ H h=>by
 obtain ⟨φ,δ,h,rh,re,p⟩:=h;exact p φ σ H ax (Kp.refl H) rh re
theorem bJ {i:Nat} {x:Str} {pos':Pos} (hN:X.N.Nodup) (he:SE C k X e m) (hi:X.N[i]?=some x:=by rfl) (hx:Loc X.env.scope x:=by first | exact Or.inl rfl | exact Or.inr rfl) (hs:swapsWith e (some (.Name x pos')) pos.line X.env=pure false:=by rfl)
  (hf:X.fn x=true\/X.env.scope.names.lookup x=some .local:=by first | exact .inl rfl | exact .inr rfl):SSt C k X (.Assign [.Name x pos'] e pos) (bO i m):=fun c=>(Sz hN hi hx (he c) hs hf).imp fun D σ H h=>by
 obtain ⟨φ,δ,h,rh,re,p⟩:=h;refine ⟨φ,δ,h,rh,re,(post.fl p).imp ?_⟩;rintro v H1 ⟨φ1,x,h1,p1,t1,rh1,rv1,q1⟩;exact q1.nx rh1 ((re.mono p1 t1).set rv1 i)
theorem LQ {tg:Expr} {t:Mg} (he:SE C k X e m) (hg:SG C k X tg t) (hs:swapsWithSole [tg] e pos.line X.env=pure false:=by rfl) (hw:swappedStores [tg] e X.env=pure none:=by rfl)
  (h1:(i9 [tg] X.env).map (·.2)=[assign tg X.env]:=by rfl):SSt C k X (.Assign [tg] e pos) (Jk m t):=fun c=>(Sy (he c) (hg c) hs hw h1).imp fun D σ H h=>by
 obtain ⟨φ,δ,h,rh,re,p⟩:=h;refine ⟨φ,δ,h,rh,re,(post.fl p).imp ?_⟩;rintro v H1 ⟨φ1,x,h1,p1,t1,rh1,rv1,q1⟩;cases et:t x δ with
 | none=>rw [et] at q1; exact q1.elim
 | some δ'=>
  rw [et] at q1;exact ⟨φ1,δ,h1,x,δ',rh1,re.mono p1 t1,rv1,et,fun σ' re'=>q1.nx rh1 re'⟩
theorem HQ (he:SE C k X e m) (hs:swapsWith e none pos.line X.env=pure false:=by rfl):SSt C k X (.Expr e pos) (Dr m):=fun c=>(OU (he c) hs).imp fun D σ H h=>by
 obtain ⟨φ,δ,h,rh,re,p⟩:=h;refine ⟨φ,δ,h,rh,re,(post.fl p).imp ?_⟩;rintro v H1 ⟨φ1,x,h1,p1,t1,rh1,rv1,q1⟩;exact q1.nx rh1 (re.mono p1 t1)
theorem bP (he:SE C k X e m):SSt C k X (.Return (some e) pos) (cB m):=fun c=>(Sv (he c)).imp fun D σ H h=>by
 obtain ⟨φ,δ,h,rh,re,p⟩:=h;refine ⟨φ,δ,h,rh,re,(post.fl p).imp ?_⟩;rintro v H1 ⟨φ1,x,h1,p1,t1,rh1,rv1,q1⟩;exact q1.rt rh1 rv1
theorem kW {cnd:Expr} {as bs:List Stmt} {t:Ev->PH->Rs Bool} (hc:ST C k X cnd t) (ha:SSs C k X as a) (hb:SSs C k X bs b):SSt C k X (.If cnd as bs pos) (iD t a b):=fun c=>(V5 (hc c) (ha c) (hb c)).imp fun D σ H h=>by
 obtain ⟨φ,δ,h,rh,re,p⟩:=h;refine ⟨φ,δ,h,rh,re,(bY.fl p).imp ?_⟩;rintro d H1 ⟨φ1,h1,p1,t1,rh1,q1⟩;cases d with
 | true=>exact Fw ⟨φ1,δ,h1,rh1,re.mono p1 t1,q1⟩
 | false=>exact Fv ⟨φ1,δ,h1,rh1,re.mono p1 t1,q1⟩
end
structure Wk where
 xs:List PV
 g:PH->Bool
def Jl (C:MC) (J:It) (w:Wk) (φ0:List Addr) (H0:Hp):Prop:=∀ φ H h,φ0<+:φ->Kp H0 H->RH C φ H h->w.g h=true->∀ i:Nat,
 (i < w.xs.length->J.go i H/\∀ x H',J.yld i H x H'->(∃ p,w.xs[i]?=some p/\RV C φ H' p x)/\Kp H H'/\RH C φ H' h)/\(w.xs.length<=i->J.stop i H)
abbrev Mi:=Ev->PH->Rs Wk
def fO (C:MC) (φ:List Addr) (H:Hp) (r:Rs Wk) (R:It->Hp->Prop):Prop:=match r with
 | .ok w h=>∀ φ' H' J,φ<+:φ'->Kp H H'->RH C φ' H' h->Jl C J w φ' H'->R J H'
 | .exc x h=>∀ φ' H',φ<+:φ'->Kp H H'->RH C φ' H' h->C.ex φ' H' x
 | .bad=>False
def rdI (C:MC) (m:Mi):TI:=fun σ H R=>∃ φ δ h,RH C φ H h/\RE C φ H δ σ/\fO C φ H (m δ h) R
def SI (C:MC) (k:Nat) (X:Cx) (tg iter:Expr) (m:Mi):Prop:=Cxt C k X->PI X tg iter (rdI C m)
def nH (n:Nat) (xs:List PV) (h':PH):Bool:=match aN h' n with
 | some ys=>PV.beqs ys xs
 | none=>false
def ofSeq (x:PV) (h:PH):Rs Wk:=match x with
 | .tup xs=>.ok ⟨xs,fun _=>true⟩ h
 | .ref n=>match aN h n with
  | some xs=>.ok ⟨xs,nH n xs⟩ h
  | none=>.bad
 | .fl xs=>.ok ⟨xs,fun _=>true⟩ h
 | _=>.bad
def aX (m:Me):Mi:=fun δ h=>(m δ h).bind ofSeq
theorem bX {tg iter:Expr} {m:Me} (h:SE C k X iter m):SI C k X tg iter (aX m):=fun c=>by
 intro pins s σ H R I q;obtain ⟨φ,δ,hh,rh,re,p⟩:=q;have key:rd C m σ H fun v H1=>∃ φ1 x h1,φ<+:φ1/\Kp H H1/\RH C φ1 H1 h1/\RV C φ1 H1 x v/\fO C φ1 H1 (ofSeq x h1) R:=by
  refine ⟨φ,δ,hh,rh,re,?_⟩;unfold aX at p;cases e:m δ hh with
  | ok x h1=>
   rw [e] at p;intro φ' v H' p' t' rh' rv';refine ⟨φ',x,h1,p',t',rh',rv',?_⟩
   show fO C φ' H' (ofSeq x h1) R
   have p0:fO C φ H (ofSeq x h1) R:=p;cases e2:ofSeq x h1 with
   | ok w h2=>rw [e2] at p0; exact fun φ2 H2 J p2 t2=>p0 φ2 H2 J (p'.trans p2) (t'.trans t2)
   | exc z h2=>rw [e2] at p0; exact fun φ2 H2 p2 t2=>p0 φ2 H2 (p'.trans p2) (t'.trans t2)
   | bad=>rw [e2] at p0; exact p0
  | exc x h1=>rw [e] at p; exact p
  | bad=>rw [e] at p; exact p
 refine thn (h c pins s σ H _ I key) fun v s1 hz=>?_;obtain ⟨x,H1,I1,r1,φ1,x',h1,p1,t1,rh1,rv1,q1⟩:=hz;unfold ofSeq at q1;cases x' with
 | tup xs=>
  obtain ⟨a,vs,rfl,sa,ra⟩:=rv1;cases r1
  rw [<- c.K] at sa;obtain ⟨its,rv,p,hz⟩:=I1.tuple sa;refine wpAny_pyIter_tuple (show s1.heap.IsTuple a its.toArray from p) ?_
  refine ⟨s1.heap.objs.size,[s1.heap.objs.size],_,_,H1,rfl,I1.kept (t':=s1.toks) fun b o e=>ah _ e,Fg a _,⟨_,a8 _ rfl,rfl,rfl⟩,fun b hb=>?_,?_⟩
  ·have e:b=s1.heap.objs.size:=by simpa using hb
   subst e;exact I1.fpOk (ai _) (I1.hok.fresh (ai _))
  ·refine q1 φ1 H1 (Itt X.K a) ax (Kp.refl H1) rh1 fun φ2 H2 h2 p2 t2 rh2 _ i=>⟨fun hi=>?_,fun hi=>⟨vs,t2.sq sa,by rw [<- ra.length]; exact hi⟩⟩;have hi':i < vs.length:=by rw [<- ra.length]; exact hi
   refine ⟨⟨vs,vs[i],t2.sq sa,by simp [hi']⟩,fun x H' y=>?_⟩;obtain ⟨e,y⟩:=y;subst e;obtain ⟨x2,e2,r2⟩:=ra.get (y vs (t2.sq sa));exact ⟨⟨x2,e2,r2.mono p2 t2⟩,Kp.refl _,rh2⟩
 | ref n=>
  obtain ⟨a,rfl,ha⟩:=rv1;cases r1
  dsimp only at q1;cases e:aN h1 n with
  | none=>rw [e] at q1; exact q1.elim
  | some xs=>
   rw [e] at q1;obtain ⟨a2,vs,ha2,sa,ra⟩:=bN rh1 e;rw [ha] at ha2; cases ha2;have sa':SqL X.K H1 a vs:=by rw [c.K]; exact sa
   obtain ⟨its,rv,p,hz⟩:=I1.list sa';refine k8 p.isList ?_;refine ⟨s1.heap.objs.size,[s1.heap.objs.size],_,_,H1,rfl,I1.kept (t':=s1.toks) fun b o e=>ah _ e,A0 a _,⟨_,a8 _ rfl,rfl,rfl⟩,fun b hb=>?_,?_⟩
   ·have e:b=s1.heap.objs.size:=by simpa using hb
    subst e;exact I1.fpOk (ai _) (I1.hok.fresh (ai _))
   ·refine q1 φ1 H1 (Itl X.K a) ax (Kp.refl H1) rh1 fun φ2 H2 h2 p2 t2 rh2 hg i=>?_;have hg:(match aN h2 n with | some ys=>PV.beqs ys xs | none=>false)=true:=hg
    cases e2:aN h2 n with
    | none=>rw [e2] at hg; cases hg
    | some ys=>
     rw [e2] at hg;have hxy:=PV.beqs_eq hg;subst hxy;obtain ⟨a3,us,ha3,su,ru⟩:=bN rh2 e2;rw [gZ p2 ha] at ha3; cases ha3;rw [<- c.K] at su;refine ⟨fun hi=>?_,fun hi=>⟨us,su,by rw [<- ru.length]; exact hi⟩⟩;have hi':i < us.length:=by rw [<- ru.length]; exact hi
     refine ⟨⟨us,us[i],su,by simp [hi']⟩,fun x H' y=>?_⟩;obtain ⟨e,y⟩:=y;subst e;obtain ⟨x2,e2,r2⟩:=ru.get (y us su);exact ⟨⟨x2,e2,r2⟩,Kp.refl _,rh2⟩
 | fl xs=>
  obtain ⟨a,vs,rfl,sa,ra⟩:=rv1;cases r1
  rw [<- c.K] at sa;obtain ⟨its,rv,p,hz⟩:=I1.list sa.sq;refine k8 p.isList ?_;refine ⟨s1.heap.objs.size,[s1.heap.objs.size],_,_,H1,rfl,I1.kept (t':=s1.toks) fun b o e=>ah _ e,A0 a _,⟨_,a8 _ rfl,rfl,rfl⟩,fun b hb=>?_,?_⟩
  ·have e:b=s1.heap.objs.size:=by simpa using hb
   subst e;exact I1.fpOk (ai _) (I1.hok.fresh (ai _))
  ·refine q1 φ1 H1 (Itl X.K a) ax (Kp.refl H1) rh1 fun φ2 H2 h2 p2 t2 rh2 _ i=>⟨fun hi=>?_,fun hi=>⟨vs,(t2.sf sa).sq,by rw [<- ra.length]; exact hi⟩⟩;have hi':i < vs.length:=by rw [<- ra.length]; exact hi
   refine ⟨⟨vs,vs[i],(t2.sf sa).sq,by simp [hi']⟩,fun x H' y=>?_⟩;obtain ⟨e,y⟩:=y;subst e;obtain ⟨x2,e2,r2⟩:=ra.get (y vs (t2.sf sa).sq);exact ⟨⟨x2,e2,r2.mono p2 t2⟩,Kp.refl _,rh2⟩
 | _=>exact q1.elim
def upTo (lo:Int):Nat->List PV
 | 0=>[]
 | n+1=>.int lo :: upTo (lo+1) n
theorem fC:∀ (n:Nat) (lo:Int),(upTo lo n).length=n
 | 0,_=>rfl
 | n+1,lo=>by simp [upTo,fC n]
theorem wK:∀ (n:Nat) (lo:Int) (i:Nat),i < n->(upTo lo n)[i]?=some (.int (lo+i))
 | 0,_,_,h=>by omega
 | n+1,lo,0,_=>by simp [upTo]
 | n+1,lo,i+1,h=>by
  simp only [upTo,fv];rw [wK n (lo+1) i (by omega)]
  congr 2
  omega
open Classical in
noncomputable def HU:List PV->PH->Rs Wk:=fun xs h=>match xs with
 | [.int j]=>if -(2 ^ 62)<=j/\j < 2 ^ 62 then .ok ⟨upTo 0 j.toNat,fun _=>true⟩ h else .bad
 | _=>.bad
noncomputable def kX (ms:Ma):Mi:=fun δ h=>(ms δ h).bind HU
theorem TB (lo:Int) (n:Nat) (φ:List Addr) (H:Hp):Jl C (Itr lo n) ⟨upTo lo n,fun _=>true⟩ φ H:=fun φ2 H2 h2 p2 t2 rh2 _ i=>by
 refine ⟨fun hi=>?_,fun hi=>?_⟩
 ·have hi':i < n:=by rw [<- fC n lo]; exact hi
  refine ⟨hi',fun x H' y=>?_⟩;obtain ⟨e,y⟩:=y;subst e y;exact ⟨⟨.int (lo+i),wK n lo i hi',rfl⟩,Kp.refl _,rh2⟩
 ·have:(upTo lo n).length<=i:=hi;rw [fC] at this;exact this
theorem postA.bindI {φ:List Addr} {H:Hp} {r:Rs (List PV)} {f:List PV->PH->Rs Wk} {R:It->Hp->Prop} (h:fO C φ H (r.bind f) R):postA C φ H r fun vs H1=>∃ φ1 ps h1,φ<+:φ1/\Kp H H1/\RH C φ1 H1 h1/\RVs C φ1 H1 ps vs/\fO C φ1 H1 (f ps h1) R:=by
 cases r with
 | ok a h'=>
  intro φ' v H' p' t' rh rv;refine ⟨φ',a,h',p',t',rh,rv,?_⟩;have p0:fO C φ H (f a h') R:=h;cases e2:f a h' with
  | ok w h2=>rw [e2] at p0; exact fun φ2 H2 J p2 t2=>p0 φ2 H2 J (p'.trans p2) (t'.trans t2)
  | exc z h2=>rw [e2] at p0; exact fun φ2 H2 p2 t2=>p0 φ2 H2 (p'.trans p2) (t'.trans t2)
  | bad=>rw [e2] at p0; exact p0
 | exc a h'=>exact h
 | bad=>exact h
theorem PI.imp {tg iter:Expr} {t t':TI} (h:PI X tg iter t) (i:∀ σ H R,t' σ H R->t σ H R):PI X tg iter t':=fun pins s σ H R I q=>h pins s σ H R I (i σ H R q)
theorem BD {x:Expr} {ms:Ma} {tg:Expr} {p pos:Pos} (ha:SA C k X [x] ms) (hb:("range" : Str)∈C.bs:=by decide) (hg:Gl X "range" := by rfl) (hs:cf [x] X.env=[(false,eval x X.env)]:=by rfl):SI C k X tg (.Call (.Name "range" p) [x] [] pos) (kX ms):=fun c=>
 (pr1 hg (c.bn _ hb) (ha c) hs).imp fun σ H R h=>by
  obtain ⟨φ,δ,h,rh,re,p⟩:=h;refine ⟨φ,δ,h,rh,re,(postA.bindI p).imp ?_⟩;rintro vs H1 ⟨φ1,xs,h1,p1,t1,rh1,rv1,q1⟩;unfold HU at q1;split at q1
  ·obtain ⟨v,rfl,rx⟩:=rv1.one;cases rx
   rename_i j
   by_cases hj:-(2 ^ 62)<=j/\j < 2 ^ 62
   ·rw [if_pos hj] at q1;exact ⟨hj,q1 φ1 H1 _ ax (Kp.refl _) rh1 (TB 0 j.toNat φ1 H1)⟩
   ·rw [if_neg hj] at q1; exact q1.elim
  ·exact q1.elim
def gK (g:PH->Bool) (tg:Mg) (body:Ms):List PV->Ev->PH->Fl
 | [],δ,h=>if g h=true then .nx δ h else .bad
 | x :: xs,δ,h=>if g h=true then (match tg x δ with
  | none=>.bad
  | some δ1=>match body δ1 h with
   | .nx δ2 h2=>gK g tg body xs δ2 h2
   | .ct δ2 h2=>gK g tg body xs δ2 h2
   | .bk δ2 h2=>.nx δ2 h2
   | r=>r) else .bad
def kH (mi:Mi) (tg:Mg) (body:Ms):Ms:=fun δ h=>(mi δ h).fl fun w h1=>gK w.g tg body w.xs δ h1
theorem fO.fl {φ:List Addr} {H:Hp} {r:Rs Wk} {f:Wk->PH->Fl} {D:Ends} (h:cG C φ H (r.fl f) D):fO C φ H r fun J H1=>∃ φ1 w h1,φ<+:φ1/\Kp H H1/\RH C φ1 H1 h1/\Jl C J w φ1 H1/\cG C φ1 H1 (f w h1) D:=by
 cases r with
 | ok a h'=>exact fun φ' H' J p t rh wk=>⟨φ',a,h',p,t,rh,wk,cG.weak p t h⟩
 | exc a h'=>exact h
 | bad=>exact h
theorem fO.imp {φ:List Addr} {H:Hp} {r:Rs Wk} {Q Q':It->Hp->Prop} (h:fO C φ H r Q) (i:∀ v H',Q v H'->Q' v H'):fO C φ H r Q':=by
 cases r with
 | ok a h'=>exact fun φ' H' J p t rh wk=>i J H' (h φ' H' J p t rh wk)
 | exc a h'=>exact h
 | bad=>exact h
theorem drop_cons {α:Type} {xs:List α} {i:Nat} {p:α} (h:xs[i]?=some p):xs.drop i=p :: xs.drop (i+1):=by
 obtain ⟨h1,h2⟩:=ab.mp h;rw [jo h1,h2]
theorem Pr {J:It} {w:Wk} {φ0:List Addr} {H0:Hp} {tg:Mg} {body:Ms} {D:Ends} {σ:St} {δ:Ev} {h:PH} (wk:Jl C J w φ0 H0) (rh:RH C φ0 H0 h) (re:RE C φ0 H0 δ σ) (p:cG C φ0 H0 (gK w.g tg body w.xs δ h) D):
  ∃ W:Nat->Nat->St->Hp->Prop,(∃ m,W 0 m σ H0)/\∀ i m σ H,W i m σ H->
   (J.stop i H/\D.nx σ H)\/(J.go i H/\∃ N:St->Hp->Prop,(∀ σ' H',N σ' H'->∃ m',m' < m/\W (i+1) m' σ' H')/\∀ x H',J.yld i H x H'->rdG C tg x σ H' fun σ2 H2=>rdS C body { D with nx:=N,ct:=N,bk:=D.nx } σ2 H2):=by
 refine ⟨fun i m σ H=>m=w.xs.length - i/\i<=w.xs.length/\∃ φ δ h,φ0<+:φ/\Kp H0 H/\RH C φ H h/\RE C φ H δ σ/\cG C φ H (gK w.g tg body (w.xs.drop i) δ h) D,
  ⟨w.xs.length,by simp,b9 _,φ0,δ,h,ax,Kp.refl _,rh,re,by rw [List.drop_zero]; exact p⟩,?_⟩
 rintro i m σ H ⟨rfl,hi,φ,δ,h,pp,tt,rh,re,p⟩
 by_cases hlt:i < w.xs.length
 ·have hd:w.xs.drop i=w.xs[i] :: w.xs.drop (i+1):=drop_cons (by simp [hlt]);rw [hd] at p;unfold gK at p
  by_cases hg:w.g h=true
  ·rw [if_pos hg] at p;obtain ⟨go,step⟩:=(wk φ H h pp tt rh hg i).1 hlt;refine .inr ⟨go,fun σ' H'=>∃ φ δ h,φ0<+:φ/\Kp H0 H'/\RH C φ H' h/\RE C φ H' δ σ'/\cG C φ H' (gK w.g tg body (w.xs.drop (i+1)) δ h) D,fun σ' H' ⟨φ',δ',h',q⟩=>⟨w.xs.length - (i+1),by omega,rfl,hlt,φ',δ',h',q⟩,fun x H' y=>?_⟩;obtain ⟨⟨q,eq,rv⟩,t1,rh1⟩:=step x H' y;have eq':w.xs[i]=q:=by
    have:w.xs[i]?=some w.xs[i]:=by simp [hlt]
    rw [this] at eq;exact bh eq
   rw [eq'] at p;cases et:tg q δ with
   | none=>rw [et] at p; exact p.elim
   | some δ1=>
    rw [et] at p;dsimp only at p;refine ⟨φ,δ,h,q,δ1,rh1,re.mono ax t1,rv,et,fun σ2 re2=>⟨φ,δ1,h,rh1,re2,?_⟩⟩;have p:=cG.weak ax t1 p;cases eb:body δ1 h with
    | nx δ2 h2=>rw [eb] at p; exact fun φ3 σ3 H3 p3 t3 rh3 re3=>⟨φ3,δ2,h2,pp.trans p3,(tt.trans t1).trans t3,rh3,re3,cG.weak p3 t3 p⟩
    | ct δ2 h2=>rw [eb] at p; exact fun φ3 σ3 H3 p3 t3 rh3 re3=>⟨φ3,δ2,h2,pp.trans p3,(tt.trans t1).trans t3,rh3,re3,cG.weak p3 t3 p⟩
    | bk δ2 h2=>rw [eb] at p; exact p
    | rt z h2=>rw [eb] at p; exact p
    | exc z h2=>rw [eb] at p; exact p
    | bad=>rw [eb] at p; exact p
  ·rw [if_neg hg] at p;exact p.elim
 ·have e:i=w.xs.length:=by omega
  subst e;rw [l9] at p;unfold gK at p
  by_cases hg:w.g h=true
  ·rw [if_pos hg] at p;exact .inl ⟨(wk φ H h pp tt rh hg _).2 (ai _),p.nx rh re⟩
  ·rw [if_neg hg] at p;exact p.elim
theorem kY {tg iter:Expr} {body:List Stmt} {mi:Mi} {t:Mg} {mb:Ms} {pos:Pos} (hi:SI C k X tg iter mi) (hg:SG C k X tg t) (hb:SSs C k X body mb) (hp:PassesOwn (model X.prog X.w) X.A X.env X.xe:=by exact PassesOwn.never)
  (hs:∀ x,iz iter X.env x=pure x:=by intro _; rfl):SSt C k X (.For tg iter body [] pos) (kH mi t mb):=fun c=>(SB hp c.calm (hi c) (hg c) (hb c) hs).imp fun D σ H h=>by
 obtain ⟨φ,δ,h,rh,re,p⟩:=h;refine ⟨φ,δ,h,rh,re,(fO.fl p).imp ?_⟩;rintro J H1 ⟨φ1,w,h1,p1,t1,rh1,wk,q1⟩;exact Pr wk rh1 (re.mono p1 t1) q1
end L2
namespace L2
open PySem PySem.Spec PyProof.Rows
variable {C:MC} {k:Nat} {X:Cx}
def bT (js:List (Option Nat)) (δ:Ev):Ev:=js.map fun o=>match o with
 | none=>none
 | some j=>Bv δ j
theorem HV:∀ {σ:St} {i:Nat} {v:V},σ[i]?=some (some v)->Fx σ i=some v
 | [],_,_,h=>by simp at h
 | x :: _,0,v,h=>by
  have:x=some v:=by simpa using h
  exact this
 | _ :: r,n+1,v,h=>HV (σ:=r) (i:=n) (by simpa using h)
theorem RE.cap {φ:List Addr} {H:Hp} {δ:Ev} {σ:St} (re:RE C φ H δ σ) (js:List (Option Nat)):RE C φ H (bT js δ) (jL js σ):=by
 refine ⟨by simp [bT,jL],fun i p e=>?_⟩;unfold bT at e;unfold jL;rw [au] at e ⊢;cases q:js[i]? with
 | none=>rw [q] at e; cases e
 | some o=>
  rw [q] at e;cases o with
  | none=>cases e
  | some j=>
   obtain ⟨v,hv,rv⟩:=re.2 j p (vZ (bh e));exact ⟨v,by show some (Fx σ j)=_; rw [HV hv],rv⟩
def jY (g:PH->Bool) (tg:Mg) (tst:Ev->PH->Rs Bool) (elt:Me) (δ0:Ev) (n:Nat):List PV->PH->Rs PV
 | [],h=>if g h=true then .ok (.ref n) h else .bad
 | x :: xs,h=>if g h=true then (match tg x δ0 with
  | none=>.bad
  | some δ1=>(tst δ1 h).bind fun b h1=>match b with
   | false=>jY g tg tst elt δ0 n xs h1
   | true=>(elt δ1 h1).bind fun p h2=>match dE h2 n with
    | some ys=>if ys.length < aw then jY g tg tst elt δ0 n xs (h2.set n (.lst (ys++[p]))) else .bad
    | none=>.bad) else .bad
def aY (js:List (Option Nat)) (mi:Mi) (tg:Mg) (tst:Ev->PH->Rs Bool) (elt:Me):Me:=fun δ h=>(mi δ h).bind fun w h1=>jY w.g tg tst elt (bT js δ) h1.length w.xs (h1++[.lst []])
def dJ:Ev->PH->Rs Bool:=fun _ h=>.ok true h
def STs (C:MC) (k:Nat) (X:Cx) (es:List Expr) (m:Ev->PH->Rs Bool):Prop:=Cxt C k X->PTs X es (rdB C m)
theorem gL:STs C k X [] dJ:=fun c pins s σ H Q I h=>by
 obtain ⟨φ,δ,h,rh,re,p⟩:=h;exact P8 pins s σ H Q I (p.val rh)
theorem dO {e:Expr} {m:Ev->PH->Rs Bool} (h:ST C k X e m):STs C k X [e] m:=fun c=>P9 (h c)
theorem fO.bind {φ:List Addr} {H:Hp} {r:Rs Wk} {f:Wk->PH->Rs PV} {Q:VK} (h:post C φ H (r.bind f) Q):fO C φ H r fun J H1=>∃ φ1 w h1,φ<+:φ1/\Kp H H1/\RH C φ1 H1 h1/\Jl C J w φ1 H1/\post C φ1 H1 (f w h1) Q:=by
 cases r with
 | ok a h'=>exact fun φ' H' J p t rh wk=>⟨φ',a,h',p,t,rh,wk,post.weak p t h⟩
 | exc a h'=>exact h
 | bad=>exact h
theorem LR {J:It} {w:Wk} {φ0:List Addr} {H0:Hp} {tg:Mg} {tst:Ev->PH->Rs Bool} {elt:Me} {Q:VK} {σ:St} {δ:Ev} {h:PH} {js:List (Option Nat)} (wk:Jl C J w φ0 H0) (rh:RH C φ0 H0 h) (re:RE C φ0 H0 δ σ)
  (p:post C φ0 H0 (jY w.g tg tst elt (bT js δ) h.length w.xs (h++[.lst []])) Q) (acc:Addr) (hacc:H0 acc=none):
  ∃ W:Nat->Nat->Hp->Prop,(∃ m,W 0 m (upd H0 acc (.lst [])))/\∀ i m H2,W i m H2->
   (J.stop i H2/\Q (.ref acc) H2)\/(J.go i H2/\∃ N:Hp->Prop,(∀ H',N H'->∃ m',m' < m/\W (i+1) m' H')/\∀ x H3,J.yld i H2 x H3->S0 js (rdG C tg) (rdB C tst) (rd C elt) σ acc x H3 N):=by
 have hlen:(φ0++[acc])[h.length]?=some acc:=by rw [<- rh.len]; simp
 refine ⟨fun i m H=>m=w.xs.length - i/\i<=w.xs.length/\∃ φ h',(φ0++[acc])<+:φ/\Kp H0 H/\RH C φ H h'/\post C φ H (jY w.g tg tst elt (bT js δ) h.length (w.xs.drop i) h') Q,
  ⟨w.xs.length,by simp,b9 _,φ0++[acc],h++[.lst []],ax,Kp.new hacc,rh.new (o:=.lst []) hacc ⟨[],bH,trivial⟩,by rw [List.drop_zero]; exact post.weak (c7 _ _) (Kp.new hacc) p⟩,?_⟩
 rintro i m H ⟨rfl,hi,φ,h',pp,tt,rh',p⟩;have pp0:φ0<+:φ:=(c7 _ _).trans pp
 by_cases hlt:i < w.xs.length
 ·have hd:w.xs.drop i=w.xs[i] :: w.xs.drop (i+1):=drop_cons (by simp [hlt]);rw [hd] at p;unfold jY at p
  by_cases hg:w.g h'=true
  ·rw [if_pos hg] at p;obtain ⟨go,step⟩:=(wk φ H h' pp0 tt rh' hg i).1 hlt;refine .inr ⟨go,fun H'=>∃ φ h',(φ0++[acc])<+:φ/\Kp H0 H'/\RH C φ H' h'/\post C φ H' (jY w.g tg tst elt (bT js δ) h.length (w.xs.drop (i+1)) h') Q,fun H' ⟨φ',h',q⟩=>⟨w.xs.length - (i+1),by omega,rfl,hlt,φ',h',q⟩,fun x H' y=>?_⟩;obtain ⟨⟨q,eq,rv⟩,t1,rh1⟩:=step x H' y;have eq':w.xs[i]=q:=by
    have:w.xs[i]?=some w.xs[i]:=by simp [hlt]
    rw [this] at eq;exact bh eq
   rw [eq'] at p;cases et:tg q (bT js δ) with
   | none=>rw [et] at p; exact p.elim
   | some δ1=>
    rw [et] at p;have re1:RE C φ H' (bT js δ) (jL js σ):=(re.mono pp0 (tt.trans t1)).cap js;refine ⟨φ,bT js δ,h',q,δ1,rh1,re1,rv,et,fun σ2 re2=>⟨φ,δ1,h',rh1,re2,(bY.bind (post.weak ax t1 p)).imp ?_⟩⟩;rintro b H5 ⟨φ5,h5,p5,t5,rh5,q5⟩;cases b with
    | false=>exact Fv ⟨φ5,h5,pp.trans p5,(tt.trans t1).trans t5,rh5,q5⟩
    | true=>
     refine Fw ⟨φ5,δ1,h5,rh5,re2.mono p5 t5,(post.bind q5).imp ?_⟩;rintro v H6 ⟨φ6,z,h6,p6,t6,rh6,rv6,q6⟩;cases e6:dE h6 h.length with
     | none=>rw [e6] at q6; exact q6.elim
     | some ys=>
      rw [e6] at q6;obtain ⟨hz,q6⟩:=q6.ite;have hφ:φ6[h.length]?=some acc:=gZ ((pp.trans p5).trans p6) hlen;obtain ⟨vs,hH,rvs⟩:=rh6.at' h.length acc _ hφ (iS e6);refine ⟨vs,hH,by rw [<- rvs.length]; exact hz,φ6,h6.set h.length (.lst (ys++[z])),(pp.trans p5).trans p6,(((tt.trans t1).trans t5).trans t6).trans (Kp.lst hH),
       rh6.write hφ (by rw [hH]; trivial) ⟨vs++[v],bH,(rvs.snoc rv6).mono ax (Kp.lst hH)⟩,post.weak ax (Kp.lst hH) q6⟩
  ·rw [if_neg hg] at p;exact p.elim
 ·have e:i=w.xs.length:=by omega
  subst e;rw [l9] at p;unfold jY at p
  by_cases hg:w.g h'=true
  ·rw [if_pos hg] at p;exact .inl ⟨(wk φ H h' pp0 tt rh' hg _).2 (ai _),p.val rh' ⟨acc,rfl,gZ pp hlen⟩⟩
  ·rw [if_neg hg] at p;exact p.elim
theorem HW {js:List (Option Nat)} {mi:Mi} {tg:Mg} {tst:Ev->PH->Rs Bool} {elt:Me} {σ:St} {H:Hp} {Q:VK} (h:rd C (aY js mi tg tst elt) σ H Q):HF js (rdI C mi) (rdG C tg) (rdB C tst) (rd C elt) σ H Q:=by
 obtain ⟨φ,δ,h,rh,re,p⟩:=h;refine ⟨φ,δ,h,rh,re,(fO.bind p).imp ?_⟩;rintro J H1 ⟨φ1,w,h1,p1,t1,rh1,wk,q1⟩;intro acc hacc;exact LR wk rh1 (re.mono p1 t1) q1 acc hacc
section
variable {elt iter tg:Expr} {ifs:List Expr} {sc:Scope} {pos:Pos} {os:Scope} {oN N:List Str} {js:List (Option Nat)} {mi:Mi} {g:Mg} {tt:Ev->PH->Rs Bool} {me:Me}
theorem cJ (hes:X.env.scope=os) (heN:X.N=oN) (ok:nW os oN sc N js=true) (hi:SI C k X tg iter mi)
  (hg:∀ C' fp s₀ H₀,SG C k (X.comp sc N C' fp s₀ H₀) tg g) (ht:∀ C' fp s₀ H₀,STs C k (X.comp sc N C' fp s₀ H₀) ifs tt) (he:∀ C' fp s₀ H₀,SE C k (X.comp sc N C' fp s₀ H₀) elt me)
  (hs:∀ x,iz iter X.env x=pure x:=by intro _; rfl):SE C k X (.ListComp elt [⟨tg,iter,ifs,0⟩] sc pos) (aY js mi g tt me):=fun c=>
 (Pa c.calm hes heN ok (hi c) (fun a b s H=>hg a b s H (c.comp sc N a b s H)) (fun a b s H=>ht a b s H (c.comp sc N a b s H)) (fun a b s H=>he a b s H (c.comp sc N a b s H)) hs).imp fun σ H Q h=>HW h
theorem fR {i:Nat} {x:Str} {pos' spos:Pos} (hN:X.N.Nodup) (hx':X.N[i]?=some x) (hloc:X.env.scope.names.lookup x=some .local) (hes:X.env.scope=os) (heN:X.N=oN) (ok:nW os oN sc N js=true) (hi:SI C k X tg iter mi)
  (hg:∀ C' fp s₀ H₀,SG C k (X.comp sc N C' fp s₀ H₀) tg g) (ht:∀ C' fp s₀ H₀,STs C k (X.comp sc N C' fp s₀ H₀) ifs tt) (he:∀ C' fp s₀ H₀,SE C k (X.comp sc N C' fp s₀ H₀) elt me)
  (hsw:swapsWith (.ListComp elt [⟨tg,iter,ifs,0⟩] sc pos) (some (.Name x pos')) spos.line X.env=pure true:=by rfl)
  (hs:∀ x,iz iter X.env x=pure x:=by intro _; rfl):SSt C k X (.Assign [.Name x pos'] (.ListComp elt [⟨tg,iter,ifs,0⟩] sc pos) spos) (bO i (aY js mi g tt me)):=fun c=>
 (Fy hN hx' hloc c.calm hes heN ok (hi c) (fun a b s H=>hg a b s H (c.comp sc N a b s H)) (fun a b s H=>ht a b s H (c.comp sc N a b s H)) (fun a b s H=>he a b s H (c.comp sc N a b s H)) hsw hs).imp fun D σ H h=>by
  obtain ⟨φ,δ,h,rh,re,p⟩:=h;refine HW ⟨φ,δ,h,rh,re,(post.fl p).imp ?_⟩;rintro v H1 ⟨φ1,x,h1,p1,t1,rh1,rv1,q1⟩;exact q1.nx rh1 ((re.mono p1 t1).set rv1 i)
end
def mFn (N:Nat) (body:Ms):Fn:=fun args h=>match body (args.map some++cm (N - args.length) none) h with
 | .nx _ h'=>.ok .non h'
 | .rt p h'=>.ok p h'
 | .exc x h'=>.exc x h'
 | _=>.bad
theorem RE.start {φ:List Addr} {H:Hp} {ps:List PV} {vs:List V} (r:RVs C φ H ps vs) (N:List Str):RE C φ H (ps.map some++cm (N.length - ps.length) none) (start N vs):=by
 unfold L2.start;refine ⟨by simp [r.length],fun i p e=>?_⟩
 by_cases hi:i < ps.length
 ·rw [dk (by simpa using hi),au] at e
  rw [dk (by simpa [<- r.length] using hi),au]
  cases q:ps[i]? with
  | none=>rw [q] at e; cases e
  | some x=>
   rw [q] at e;cases e
   obtain ⟨v,hv,rv⟩:=r.at q;exact ⟨v,by rw [hv]; rfl,rv⟩
 ·rw [e9 (by simpa using hi)] at e
  rw [List.getElem?_replicate] at e;split at e
  ·cases e
  ·cases e
theorem cH {P:Program} {mg:Str->Option Value} {base:Heap} {x qual:Str} {st:Stmt} {f:Addr} {fd:c3} {N ps:List Str} {body:Ms} (hex:∀ φ H x,¬ C.ex φ H x) (hbn:∀ x∈C.bs,mg x=none)
  (F:Fun C.K x qual st f fd) (S:aV N ps (aE st))
  (hb:∀ (cdv:Value) (A:Around) (outer:List Env) (s:Shared) (H:Hp) (E:XK),SSs C k (Fp CX0 P C.w C.K mg base N qual (aE st) f cdv A outer s H E).nox (aQ st) body):
  aU P C.w C.K mg base CX0 (k+1) f fd ps (spM C ps.length (mFn N.length body)):=by
 refine F.ok S (fun vs H Q E h=>?_) (fun cdv A outer s H vs Q E hr h=>?_)
 ·obtain ⟨φ,h,xs,rh,rv,hl,_⟩:=h;rw [<- rv.length];exact hl
 ·obtain ⟨φ,h,xs,rh,rv,hl,p⟩:=h;refine ⟨_,hb cdv A outer s H E ⟨rfl,rfl,hr,hbn,rfl⟩,φ,xs.map some++cm (N.length - xs.length) none,h,rh,RE.start rv N,?_⟩;unfold mFn at p;cases e:body (xs.map some++cm (N.length - xs.length) none) h with
  | nx δ h'=>rw [e] at p; exact fun φ' σ' H' pp tt rh' re'=>p φ' .non H' pp tt rh' rfl
  | rt z h'=>rw [e] at p; exact p
  | exc z h'=>rw [e] at p; exact fun φ' H' pp tt rh'=>(hex _ _ _ (p φ' H' pp tt rh')).elim
  | bk δ h'=>rw [e] at p; exact p.elim
  | ct δ h'=>rw [e] at p; exact p.elim
  | bad=>rw [e] at p; exact p.elim
theorem TC {f:Fn} {H:Hp} {Q:VK} {E:XK} {a:Addr} {ns:List Int} (hO:Lh H) (ho:SqL C.K H a (ns.map V.int)) (hf:∃ h,f [.fl (ns.map PV.int)] []=.ok (.bl true) h) (hQ:∀ H',Q (.bl true) H'):spM C 1 f [.ref a] H Q E:=by
 have r0:∀ ns:List Int,RVs C [] H (ns.map PV.int) (ns.map V.int):=by
  intro ns
  induction ns with
  | nil=>trivial
  | cons n ns ih=>exact ⟨rfl,ih⟩
 have hs:SqF C.K H a (ns.map V.int):=by
  rcases ho with (h | ⟨o,h⟩) | h
  ·rcases hO a with z | ⟨o,xs,z⟩
   ·rw [z] at h; cases h
   ·rw [z] at h; cases h
  ·exact .inl ⟨o,h⟩
  ·exact .inr h
 refine ⟨[],[],[.fl (ns.map PV.int)],⟨rfl,by simp,fun n b ob h1 h2=>by simp at h1⟩,⟨⟨a,_,rfl,hs,r0 ns⟩,trivial⟩,rfl,?_⟩;obtain ⟨h,e⟩:=hf;rw [e];intro φ' v H' _ _ _ rv;cases rv
 exact hQ H'
end L2
namespace L2
open PySem PySem.Spec PyProof.Rows
variable {C:MC} {k:Nat} {X:Cx}
def tyN (x:PV) (h:PH):Option String:=match x with
 | .non=>some "NoneType"
 | .bl _=>some "bool"
 | .int _=>some "int"
 | .str _=>some "str"
 | .tup _=>some "tuple"
 | .fl _=>some "list"
 | .ref n=>match h[n]? with
  | some (.lst _)=>some "list"
  | some (.dK _)=>some "dict"
  | _=>none
 | .ty _=>none
def Ds (t c:String):Bool:=t == c || (t == "bool" && c == "int")
def known:List String:=["int","str","bool","list","tuple","dict"]
def Pt:List PV->PH->Rs PV:=fun xs h=>match xs with
 | [x,.ty c]=>match tyN x h with
  | some t=>if c∈known then .ok (.bl (Ds t c)) h else .bad
  | none=>.bad
 | _=>.bad
def Pu:List PV->PH->Rs PV:=fun xs h=>match xs with
 | [.int i,.int j]=>.ok (.int (if j < i then j else i)) h
 | _=>.bad
theorem VJ:hV C k X (.builtin "min") Pu:=fun c=>(IW c.calm).imp fun vs H Q h=>by
 obtain ⟨φ,h,ps,rh,rv,po⟩:=h;unfold Pu at po;split at po
 ·obtain ⟨v,w,rfl,rx,ry⟩:=rv.two;cases rx; cases ry;exact ⟨_,_,rfl,po.val rh rfl⟩
 ·exact po.elim
def mMt (ty:PV->PH->Bool) (g:PV->List PV->PH->Rs PV) (mo:Me) (ms:Ma):Me:=fun δ h=>(mo δ h).bind fun x h1=>if ty x h1=true then (ms δ h1).bind fun ps h2=>g x ps h2 else .bad
def Pv (ty:PV->PH->Bool) (g:PV->List PV->PH->Rs PV) (mo:Me):Me:=fun δ h=>(mo δ h).bind fun x h1=>if ty x h1=true then g x [] h1 else .bad
def rM (C:MC) (g:PV->List PV->PH->Rs PV):V->List V->Hp->VK->Prop:=fun x xs H Q=>∃ φ h p ps,RH C φ H h/\RV C φ H p x/\RVs C φ H ps xs/\post C φ H (g p ps h) Q
def MtS (C:MC) (k:Nat) (X:Cx) (T:String) (ty:PV->PH->Bool) (id:String) (g:PV->List PV->PH->Rs PV):Prop:=Cxt C k X->MtR X id (rM C g)/\∀ φ H h p x,RH C φ H h->RV C φ H p x->ty p h=true->tyV C.K T x H
section
variable {o e:Expr} {es:List Expr} {mo:Me} {ms:Ma} {name:Str} {apos cpos:Pos} {T id:String} {ty:PV->PH->Bool} {g:PV->List PV->PH->Rs PV}
theorem FP (pa:PlainAttrs T) (slot:Slot T name id) (hty:typeOf (.builtin id)=pure (.type "method_descriptor")) (hm:MtS C k X T ty id g) (ho:SE C k X o mo) (ha:SA C k X (e :: es) ms)
  (hbase:attributeBase o name X.env (eval o X.env)=eval o X.env:=by rfl)
  (hfew:((backTo cpos (cf (e :: es) X.env)).all (fun x=>!x.1) && (backToKw cpos (keywordEach [] X.env)).all (fun x=>x.1.isSome)
   && decide ((e :: es).length+([]:List Keyword).length+(if ([]:List Keyword).isEmpty then 0 else 1) < 30))=true:=by rfl)
  (hline:(apos.endLine == cpos.line)=true:=by rfl) (hs:cf (e :: es) X.env=(false,eval e X.env) :: cf es X.env:=by rfl) (hplain:(backTo cpos (cf es X.env)).any (·.1)=false:=by rfl):
  SE C k X (.Call (.Attribute o name apos) (e :: es) [] cpos) (mMt ty g mo ms):=fun c=>(Vj pa slot hty (hm c).1 (ho c) (ha c) hbase hfew hline hs hplain).imp fun σ H Q h=>by
 obtain ⟨φ,δ,h,rh,re,p⟩:=h;refine ⟨φ,δ,h,rh,re,(post.bind p).imp ?_⟩;rintro v H1 ⟨φ1,x,h1,p1,t1,rh1,rv1,q1⟩;obtain ⟨ht,q1⟩:=q1.ite;refine ⟨by rw [c.K]; exact (hm c).2 φ1 H1 h1 x v rh1 rv1 ht,φ1,δ,h1,rh1,re.mono p1 t1,(postA.bind q1).imp ?_⟩;rintro vs H2 ⟨φ2,xs,h2,p2,t2,rh2,rv2,q2⟩;exact ⟨φ2,h2,x,xs,rh2,rv1.mono p2 t2,rv2,q2⟩
end
theorem MtR.imp {id:String} {r r':V->List V->Hp->VK->Prop} (h:MtR X id r) (i:∀ x xs H Q,r' x xs H Q->r x xs H Q):MtR X id r':=fun pins s σ H x xs v us Q I rx rs q=>h pins s σ H x xs v us Q I rx rs (i x xs H Q q)
def isL (x:PV) (h:PH):Bool:=match x with
 | .ref n=>(dE h n).isSome
 | _=>false
theorem LS {φ:List Addr} {H:Hp} {h:PH} {p:PV} {x:V} (rh:RH C φ H h) (rv:RV C φ H p x) (e:isL p h=true):tyV C.K "list" x H:=by
 cases p with
 | ref n=>
  obtain ⟨a,rfl,ha⟩:=rv;obtain ⟨xs,hx⟩:=Option.isSome_iff_exists.mp (show (dE h n).isSome=true from e)
  obtain ⟨vs,hH,ra⟩:=rh.at' n a _ ha (iS hx);exact .inl ⟨rfl,vs,SqL.of hH⟩
 | _=>cases e
def onL (f:List PV->List PV->Option (PV×List PV)):PV->List PV->PH->Rs PV:=fun x ps h=>match x with
 | .ref n=>match dE h n with
  | some xs=>match f xs ps with
   | some (r,ys)=>.ok r (h.set n (.lst ys))
   | none=>.bad
  | none=>.bad
 | _=>.bad
theorem TF {f:List PV->List PV->Option (PV×List PV)} {x:V} {xs:List V} {H:Hp} {Q:VK} (h:rM C (onL f) x xs H Q):∃ φ l ps ys vs r zs,x=.ref l/\H l=some (.lst vs)/\RVs C φ H ys vs/\RVs C φ H ps xs/\f ys ps=some (r,zs)/\
  ∀ (v:V) (ws:List V),RV C φ H r v->RVs C φ H zs ws->Q v (upd H l (.lst ws)):=by
 obtain ⟨φ,h,p,ps,rh,rx,rs,po⟩:=h;unfold onL at po;cases p with
 | ref n=>
  obtain ⟨a,rfl,ha⟩:=rx;dsimp only at po;cases e:dE h n with
  | none=>rw [e] at po; exact po.elim
  | some ys=>
   rw [e] at po;dsimp only at po;obtain ⟨vs,hH,ra⟩:=rh.at' n a _ ha (iS e);cases ef:f ys ps with
   | none=>rw [ef] at po; exact po.elim
   | some rz=>
    rw [ef] at po;obtain ⟨r,zs⟩:=rz;exact ⟨φ,a,ps,ys,vs,r,zs,rfl,hH,ra,rs,ef,fun v ws rv rw'=>po.lset rh ha hH rw' rv⟩
 | _=>exact po.elim
def dQ:List PV->List PV->Option (PV×List PV):=fun xs ps=>match ps with
 | [p]=>if xs.length < aw then some (.non,xs++[p]) else none
 | _=>none
theorem Jm:MtR X "list.append" (rM C (onL dQ)):=MtR.imp (show MtR X "list.append" HC from A5) fun x xs H Q h=>by
 obtain ⟨φ,l,ps,ys,vs,r,zs,rfl,hH,ra,rs,ef,q⟩:=TF h;unfold dQ at ef;split at ef
 ·split at ef
  ·rename_i hz;cases ef
   obtain ⟨v,rfl,rx⟩:=rs.one;exact ⟨l,vs,v,rfl,rfl,hH,by rw [<- ra.length]; exact hz,q .non _ rfl (ra.snoc rx)⟩
  ·cases ef
 ·cases ef
theorem pU:MtS C k X "list" isL "list.append" (onL dQ):=fun c=>⟨Jm,fun φ H h p x rh rv e=>LS rh rv e⟩
def VL (K:af):R2:=fun x y H Q=>∃ a b ys,x=.ref a/\y=.ref b/\SqT K H a []/\SqT K H b ys/\Q (.ref b) H
theorem Pw:OpR X (ff .Add) (VL X.K):=by
 intro pins s σ H x y v u Q I rx ry h;obtain ⟨a,b,ys,rfl,rfl,ha,hb,q⟩:=h;cases rx
 cases ry
 obtain ⟨its,r1,p1,_⟩:=I.tuple ha;obtain ⟨its2,r2,p2,_⟩:=I.tuple hb;cases r1
 obtain ⟨⟨cls,dd,data,sl⟩,ho,hc,n,hd⟩:=id p1;obtain ⟨⟨cls2,dd2,data2,sl2⟩,ho2,hc2,n2,hd2⟩:=id p2;simp only at hc hd hc2 hd2;subst hc hd hc2 hd2;exact concat_meets ⟨_,ho,rfl⟩ ⟨_,ho2,rfl⟩ noFill_tuple_add seq_tuple_add PySem.F.slot_tuple_add PySem.F.entry_tuple_add (PySem.F.args_tuple_add_2 _ _)
   (tuple_addW0 a b ([]:List Value).toArray its2.toArray n n2 dd dd2 sl sl2 (by simp)) ⟨ho,ho2,⟨.ref b,H,I,rfl,q⟩⟩
def bK:PV->PV->PH->Rs PV:=fun x y h=>match x,y with
 | .tup [],.tup ys=>.ok (.tup ys) h
 | x,y=>LF x y h
theorem cD:OpS C k X (ff .Add) bK:=fun c=>((VB c).or (by have:=Pw (X:=X); rw [c.K] at this; exact this)).imp fun x y H Q h=>by
 obtain ⟨φ,h,p,q,rh,rx,ry,po⟩:=h;unfold bK at po;split at po
 ·obtain ⟨a,vs,rfl,sa,ra⟩:=rx;obtain ⟨b,us,rfl,sb,rb⟩:=ry;have:vs=[]:=by cases vs <;> first | rfl | exact ra.elim
  subst this;exact .inr ⟨a,b,us,rfl,rfl,sa,sb,po.val rh ⟨b,us,rfl,sb,rb⟩⟩
 ·exact .inl ⟨φ,h,p,q,rh,rx,ry,po⟩
end L2
namespace L2
open PySem PySem.Spec PyProof.Rows
variable {C:MC} {k:Nat} {X:Cx}
theorem S6:UnS C k X (unaryOp .USub) LJ:=fun c=>by
 have h:UnR X (unaryOp .USub) (rU fun i=>.int (-i)):=SM;intro pins s σ H x v Q I rx q;refine h pins s σ H x v Q I rx ?_;obtain ⟨φ,h,p,rh,rv,po⟩:=q;unfold LJ at po;cases p with
 | int i=>cases rv; exact ⟨i,rfl,po.val rh rfl⟩
 | _=>exact po.elim
end L2
namespace L2
open PySem
@[irreducible] def Rs.W {α:Type} (r:Rs α) (Q:α->PH->Prop):Prop:=match r with
 | .ok a h=>Q a h
 | _=>False
structure FE where
 nx:Ev->PH->Prop
 rt:PV->PH->Prop
 bk:Ev->PH->Prop:=fun _ _=>False
 ct:Ev->PH->Prop:=fun _ _=>False
@[irreducible] def Fl.W (r:Fl) (E:FE):Prop:=match r with
 | .nx δ h=>E.nx δ h
 | .rt p h=>E.rt p h
 | .bk δ h=>E.bk δ h
 | .ct δ h=>E.ct δ h
 | _=>False
@[irreducible] def Lt (b:Ms) (E:FE) (δ:Ev) (h:PH):Prop:=(b δ h).W E
section
unseal Rs.W Fl.W Lt
variable {α β:Type} {Q:α->PH->Prop} {E:FE} {δ:Ev} {h:PH}
@[simp] theorem iE {a:α}:(Rs.ok a h).W Q=Q a h:=(rfl)
@[simp] theorem Ye:(Fl.nx δ h).W E=E.nx δ h:=(rfl)
@[simp] theorem Yf {p:PV}:(Fl.rt p h).W E=E.rt p h:=(rfl)
@[simp] theorem Yg:(Fl.bk δ h).W E=E.bk δ h:=(rfl)
@[simp] theorem Yh:(Fl.ct δ h).W E=E.ct δ h:=(rfl)
@[simp] theorem BE {Q:β->PH->Prop} {r:Rs α} {f:α->PH->Rs β}:(r.bind f).W Q=r.W fun a h=>(f a h).W Q:=by cases r <;> rfl
@[simp] theorem Px {r:Rs α} {f:α->PH->Fl}:(r.fl f).W E=r.W fun a h=>(f a h).W E:=by cases r <;> rfl
theorem LU {Q':α->PH->Prop} {r:Rs α} (h:r.W Q) (i:∀ a h,Q a h->Q' a h):r.W Q':=by cases r <;> first | exact i _ _ h | exact h
@[simp] theorem Y2 {c:Prop} [Decidable c] {x y:Rs α}:(if c then x else y).W Q=if c then x.W Q else y.W Q:=by split <;> rfl
@[simp] theorem Y3:(Rs.bad:Rs α).W Q=False:=(rfl)
@[simp] theorem XA:Fl.bad.W E=False:=(rfl)
theorem kI {r:Rs α} (w:r.W Q):∃ a h,r=.ok a h/\Q a h:=by
 cases r with
 | ok a h=>exact ⟨a,h,rfl,w⟩
 | exc=>exact w.elim
 | bad=>exact w.elim
variable {a b:Ms} {m ma mb mc:Me} {t ta tb:Ev->PH->Rs Bool} {g g':PV->PV->PH->Rs PV}
theorem aL:(aZ a b δ h).W E=(a δ h).W { E with nx:=Lt b E }:=by
 show (match a δ h with | .nx δ1 h1=>b δ1 h1 | r=>r).W E=_
 cases a δ h <;> rfl
theorem now {b:Ms} (w:(b δ h).W E):Lt b E δ h:=w
@[simp] theorem Y4:(kG δ h).W E=E.nx δ h:=(rfl)
@[simp] theorem Y5:(Xz δ h).W E=E.bk δ h:=(rfl)
@[simp] theorem Y6:(Tx δ h).W E=E.ct δ h:=(rfl)
@[simp] theorem nM {i:Nat}:(bO i m δ h).W E=(m δ h).W fun p h=>E.nx (δ.set i (some p)) h:=by simp [bO]
@[simp] theorem Y7 {t:Mg}:(Jk m t δ h).W E=(m δ h).W fun p h=>∃ δ',t p δ=some δ'/\E.nx δ' h:=by
 unfold Jk;cases m δ h with
 | ok p h1=>
  show (match t p δ with | some δ'=>Fl.nx δ' h1 | none=>.bad).W E=∃ δ',t p δ=some δ'/\E.nx δ' h1
  cases t p δ <;> simp [Fl.W]
 | exc=>rfl
 | bad=>rfl
@[simp] theorem Y8:(Dr m δ h).W E=(m δ h).W fun _ h=>E.nx δ h:=by simp [Dr]
@[simp] theorem nN:(cB m δ h).W E=(m δ h).W E.rt:=by simp [cB]
@[simp] theorem XB:(VH δ h).W E=E.rt .non h:=(rfl)
@[simp] theorem kZ:(iD t a b δ h).W E=(t δ h).W fun c h=>if c=true then (a δ h).W E else (b δ h).W E:=by
 unfold iD;rw [Px]
 congr
 funext c h
 cases c <;> simp
@[simp] theorem VM {i:Nat}:mV i δ h=match Bv δ i with | some p=>.ok p h | none=>.bad:=(rfl)
@[simp] theorem VN {p:PV}:mC p δ h=.ok p h:=(rfl)
@[simp] theorem Py:aD g ma mb δ h=(ma δ h).bind fun x h1=>(mb δ h1).bind fun y h2=>g x y h2:=(rfl)
@[simp] theorem XC {g:PV->PH->Rs PV}:mUn g ma δ h=(ma δ h).bind g:=(rfl)
@[simp] theorem WJ:bI m δ h=(m δ h).bind tru:=(rfl)
@[simp] theorem VO:Am t δ h=(t δ h).bind fun b h1=>.ok (!b) h1:=(rfl)
@[simp] theorem VP:tU ta tb δ h=(ta δ h).bind fun b h1=>if b=true then tb δ h1 else .ok false h1:=by
 unfold tU; congr 1; funext b h1; cases b <;> simp
@[simp] theorem WK:FN ta tb δ h=(ta δ h).bind fun b h1=>if b=true then .ok true h1 else tb δ h1:=by
 unfold FN; congr 1; funext b h1; cases b <;> simp
@[simp] theorem XD:mIf t ma mb δ h=(t δ h).bind fun b h1=>if b=true then ma δ h1 else mb δ h1:=by
 unfold mIf; congr 1; funext b h1; cases b <;> simp
def bl2 (x:PV) (f g:Rs PV):Rs PV:=match x with
 | .bl true=>f
 | .bl false=>g
 | _=>.bad
@[simp] theorem XE {b:Bool} {f g:Rs PV}:bl2 (.bl b) f g=if b=true then f else g:=by cases b <;> simp [bl2]
@[simp] theorem WL:LN g g' ma mb mc δ h=(ma δ h).bind fun x h1=>(mb δ h1).bind fun y h2=>(g x y h2).bind fun z h3=>bl2 z ((mc δ h3).bind fun w h4=>(g' y w h4).bind LM) (.ok (.bl false) h3):=by
 unfold LN; first | rfl | (congr 1; funext x h1; congr 1; funext y h2; congr 1; funext z h3; cases z <;> first | rfl | (rename_i b; cases b <;> rfl))
@[simp] theorem VQ {b:Bool}:LM (.bl b) h=.ok (.bl b) h:=(rfl)
@[simp] theorem WM {ms:Ma}:jQ ms δ h=(ms δ h).bind fun xs h1=>if xs.length<=aw then .ok (.tup xs) h1 else .bad:=(rfl)
@[simp] theorem WN {ms:Ma}:rZ ms δ h=(ms δ h).bind fun xs h1=>if xs.length<=aw then .ok (.ref h1.length) (h1++[.lst xs]) else .bad:=(rfl)
@[simp] theorem UO:wH δ h=.ok (.ref h.length) (h++[.dK []]):=(rfl)
@[simp] theorem uZ:aI δ h=.ok [] h:=(rfl)
@[simp] theorem iU {ms:Ma}:aB m ms δ h=(m δ h).bind fun x h1=>(ms δ h1).bind fun xs h2=>.ok (x :: xs) h2:=(rfl)
@[simp] theorem sC {g:List PV->PH->Rs PV} {ms:Ma}:mCB g ms δ h=(ms δ h).bind g:=(rfl)
@[simp] theorem wL {n:Nat} {f:Fn} {ms:Ma}:bE n f ms δ h=(ms δ h).bind fun ps h1=>if ps.length=n then f ps h1 else .bad:=(rfl)
@[simp] theorem WO:BB δ h=.ok none h:=(rfl)
def LV (x:PV) (h:PH):Rs (Option Int):=match x with
 | .int i=>.ok (some i) h
 | _=>.bad
@[simp] theorem TH {i:Int}:LV (.int i) h=.ok (some i) h:=(rfl)
@[simp] theorem Y9:mP m δ h=(m δ h).bind LV:=(rfl)
@[simp] theorem XF {ml mh:Mo}:mSl m ml mh δ h=(m δ h).bind fun x h1=>(ml δ h1).bind fun l h2=>(mh δ h2).bind fun u h3=>vSl x l u h3:=(rfl)
@[simp] theorem XG {ty:PV->PH->Bool} {g:PV->List PV->PH->Rs PV} {ms:Ma}:mMt ty g m ms δ h=(m δ h).bind fun x h1=>if ty x h1=true then (ms δ h1).bind fun ps h2=>g x ps h2 else .bad:=(rfl)
@[simp] theorem Pz {ty:PV->PH->Bool} {g:PV->List PV->PH->Rs PV}:Pv ty g m δ h=(m δ h).bind fun x h1=>if ty x h1=true then g x [] h1 else .bad:=(rfl)
@[simp] theorem pV:aw=16777216:=by rw [c6]
theorem PB {i j:Int} {h:PH} (c:(-18446744073709551616 < i/\i < 18446744073709551616)\/(-18446744073709551616 < j/\j < 18446744073709551616)):Bx (.int i) (.int j) h=.ok (.int (i*j)) h:=by
 show (if D4 i j then _ else _)=_
 exact if_pos c
@[simp] theorem VR {i j:Int} (c:(-18446744073709551616 < i/\i < 18446744073709551616)\/(-18446744073709551616 < j/\j < 18446744073709551616)):vInt D4 (fun i j=>i*j) (.int i) (.int j) h=.ok (.int (i*j)) h:=PB c
@[simp] theorem WQ {i j:Int} (c:0 < j/\j < 1073741824):vInt L6 (fun i j=>i / j) (.int i) (.int j) h=.ok (.int (i / j)) h:=if_pos c
@[simp] theorem WR {i j:Int} (c:0 < j):vInt (fun _ j=>0 < j) (fun i j=>i % j) (.int i) (.int j) h=.ok (.int (i % j)) h:=if_pos c
@[simp] theorem WS {i j:Int} (c:0<=j/\j<=1000000/\-18446744073709551616 < i/\i < 18446744073709551616):vInt IT (fun i j=>i ^ j.toNat) (.int i) (.int j) h=.ok (.int (i ^ j.toNat)) h:=by
 show (if IT i j then _ else _)=_
 refine if_pos ⟨c.1,c.2.1,?_⟩;obtain ⟨_,_,h1,h2⟩:=c;omega
@[simp] theorem WT {i j:Int}:FK (.int i) (.int j) h=.ok (.int (i - j)) h:=(rfl)
@[simp] theorem WU {i:Int}:LJ (.int i) h=.ok (.int (-i)) h:=(rfl)
@[simp] theorem Jn {i j:Int}:bK (.int i) (.int j) h=.ok (.int (i+j)) h:=(rfl)
@[simp] theorem An {x y:Str} (c:x.length+y.length<=16777216):bK (.str x) (.str y) h=.ok (.str (x++y)) h:=if_pos c
@[simp] theorem VS {f:Int->Int->Bool} {g:List Nat->List Nat->Bool} {i j:Int}:Dn f g (.int i) (.int j) h=.ok (.bl (f i j)) h:=(rfl)
@[simp] theorem VT {f:Int->Int->Bool} {g:List Nat->List Nat->Bool} {i j:Str}:Dn f g (.str i) (.str j) h=.ok (.bl (g i.cps.toList j.cps.toList)) h:=(rfl)
@[simp] theorem XH {b:Bool}:tru (.bl b) h=.ok b h:=(rfl)
@[simp] theorem WV:tru .non h=.ok false h:=(rfl)
@[simp] theorem WW {i:Int}:tru (.int i) h=.ok (i != 0) h:=(rfl)
@[simp] theorem WX {xs:List PV}:tru (.tup xs) h=.ok (!xs.isEmpty) h:=(rfl)
@[simp] theorem VU {p:PV}:ofO (some p) h=.ok p h:=(rfl)
@[simp] theorem VV {b:Bool}:ofB (some b) h=.ok (.bl b) h:=(rfl)
@[simp] theorem WY {xs:List PV} {i:Int}:vIx (.tup xs) (.int i) h=ofO (atI xs i) h:=(rfl)
@[simp] theorem XI {xs:List PV} {i:Int}:vIx (.fl xs) (.int i) h=ofO (atI xs i) h:=(rfl)
theorem hW {n:Nat} {xs:List PV} {i:Int} (e:h[n]?=some (.lst xs)):vIx (.ref n) (.int i) h=ofO (atI xs i) h:=by simp [vIx,aN,e]
@[simp] theorem PC {z:Str} {i:Int} (c:z.length<=16777216):vIx (.str z) (.int i) h=ofO ((atI z.cps.toList i).map fun c=>.str ⟨#[c]⟩) h:=if_pos c
@[simp] theorem VW {xs:List PV}:gX [.tup xs] h=.ok (.int xs.length) h:=(rfl)
@[simp] theorem WZ {xs:List PV}:gX [.fl xs] h=.ok (.int xs.length) h:=(rfl)
theorem iV {n:Nat} {xs:List PV} (e:h[n]?=some (.lst xs)):gX [.ref n] h=.ok (.int xs.length) h:=by simp [gX,aN,e]
@[simp] theorem X0 {i j:Int}:Pu [.int i,.int j] h=.ok (.int (if j < i then j else i)) h:=(rfl)
@[simp] theorem X1 {i j:Int}:Pq [.int i,.int j] h=.ok (.int (if j > i then j else i)) h:=(rfl)
@[simp] theorem VX {i:Int} {c:String}:Pt [.int i,.ty c] h=if c∈known then .ok (.bl (Ds "int" c)) h else .bad:=(rfl)
@[simp] theorem VY {i:Str} {c:String}:Pt [.str i,.ty c] h=if c∈known then .ok (.bl (Ds "str" c)) h else .bad:=(rfl)
@[simp] theorem X2 {i:Bool} {c:String}:Pt [.bl i,.ty c] h=if c∈known then .ok (.bl (Ds "bool" c)) h else .bad:=(rfl)
@[simp] theorem VZ {i:List PV} {c:String}:Pt [.tup i,.ty c] h=if c∈known then .ok (.bl (Ds "tuple" c)) h else .bad:=(rfl)
theorem fA {n:Nat} {xs:List PV} (e:h[n]?=some (.lst xs)):isL (.ref n) h=true:=by simp [isL,dE,e]
theorem gM {n:Nat} {xs:List PV} {p:PV} (e:h[n]?=some (.lst xs)) (c:xs.length < 16777216):onL dQ (.ref n) [p] h=.ok .non (h.set n (.lst (xs++[p]))):=by simp [onL,dE,e,dQ,c]
theorem PD {α:Type} {xs:List α} {i:Int} (h0:0<=i) (h1:i < xs.length):atI xs i=xs[i.toNat]?:=by
 unfold atI ixN;rw [if_pos h0,if_pos h1]; rfl
theorem LW {α:Type} {xs:List α} {x:α}:atI (xs++[x]) (-1)=some x:=by
 unfold atI ixN;rw [if_neg (by decide),if_pos (by simp; omega)];have:((-1:Int)+((xs++[x]).length:Int)).toNat=xs.length:=by simp; omega
 rw [this];simp
theorem BF {g:PH->Bool} {tg:Mg} {body:Ms} {E:FE} (I:Nat->Ev->PH->Prop):∀ (xs:List PV) (k:Nat) (δ:Ev) (h:PH),I k δ h->
  (∀ i x δ h,k<=i->xs[i - k]?=some x->I i δ h->g h=true/\∃ δ1,tg x δ=some δ1/\(body δ1 h).W { nx:=I (i+1),ct:=I (i+1),rt:=E.rt,bk:=E.nx })->
  (∀ δ h,I (k+xs.length) δ h->g h=true/\E.nx δ h)->(gK g tg body xs δ h).W E
 | [],k,δ,h,i0,_,fin=>by
  obtain ⟨h1,h2⟩:=fin δ h i0;simp [gK,h1,h2]
 | x :: xs,k,δ,h,i0,step,fin=>by
  obtain ⟨h1,δ1,h2,h3⟩:=step k x δ h (ai _) (by simp) i0;have go:∀ δ2 h2,I (k+1) δ2 h2->(gK g tg body xs δ2 h2).W E:=fun δ2 h2 i2=>
   BF I xs (k+1) δ2 h2 i2 (fun i y δ h hk hy=>step i y δ h (by omega) (by
    have:i - k=(i - (k+1))+1:=by omega
    rw [this,fv]; exact hy)) (fun δ h hi=>fin δ h (by
    have e:k+(x :: xs).length=k+1+xs.length:=by simp; omega
    rw [e]; exact hi))
  unfold gK;rw [if_pos h1,h2]
  show Fl.W (match body δ1 h with | .nx δ2 h2=>gK g tg body xs δ2 h2 | .ct δ2 h2=>gK g tg body xs δ2 h2 | .bk δ2 h2=>.nx δ2 h2 | r=>r) E
  cases e:body δ1 h with
  | nx δ2 h2=>rw [e] at h3; exact go δ2 h2 h3
  | ct δ2 h2=>rw [e] at h3; exact go δ2 h2 h3
  | bk δ2 h2=>rw [e] at h3; exact h3
  | rt p h2=>rw [e] at h3; exact h3
  | exc=>rw [e] at h3; exact h3
  | bad=>rw [e] at h3; exact h3
theorem LX {ms:Ma} {i:Nat} {body:Ms} {j:Int} (I:Nat->Ev->PH->Prop) (e:ms δ h=.ok [.int j] h) (hj:-4611686018427387904<=j/\j < 4611686018427387904) (h0:I 0 δ h)
  (step:∀ (q:Nat) δ h,(q:Int) < j->I q δ h->(body (δ.set i (some (.int q))) h).W { nx:=I (q+1),ct:=I (q+1),rt:=E.rt,bk:=E.nx })
  (fin:∀ δ h,I j.toNat δ h->E.nx δ h):(kH (kX ms) (gN i) body δ h).W E:=by
 unfold kH kX;rw [e];have hj':-(2 ^ 62)<=j/\j < 2 ^ 62:=hj;simp only [Rs.bind_ok,HU,if_pos hj',Rs.fl_ok];refine BF I _ 0 δ h h0 (fun q x δ h _ hx hi=>?_) (fun δ h hi=>⟨rfl,fin δ h (by rw [fC,Nat.zero_add] at hi; exact hi)⟩);have hq:q < j.toNat:=by
  have:=(ab.mp hx).1;rw [fC] at this;omega
 rw [Nat.sub_zero,wK _ _ _ hq] at hx;cases hx
 refine ⟨rfl,_,rfl,?_⟩;rw [Int.zero_add];exact step q δ h (by omega) hi
theorem LY {m:Me} {tg:Mg} {body:Ms} {xs:List PV} (I:Nat->Ev->PH->Prop) (e:m δ h=.ok (.tup xs) h\/m δ h=.ok (.fl xs) h) (h0:I 0 δ h)
  (step:∀ (q:Nat) x δ h,xs[q]?=some x->I q δ h->∃ δ1,tg x δ=some δ1/\(body δ1 h).W { nx:=I (q+1),ct:=I (q+1),rt:=E.rt,bk:=E.nx })
  (fin:∀ δ h,I xs.length δ h->E.nx δ h):(kH (aX m) tg body δ h).W E:=by
 have go:(gK (fun _=>true) tg body xs δ h).W E:=BF I _ 0 δ h h0 (fun q x δ h _ hx hi=>⟨rfl,step q x δ h (by simpa using hx) hi⟩) (fun δ h hi=>⟨rfl,fin δ h (by simpa using hi)⟩)
 unfold kH aX;rcases e with e | e <;> rw [e] <;> exact go
theorem oC {m:Me} {tg:Mg} {body:Ms} {n:Nat} {xs:List PV} {h1:PH} (I:Nat->Ev->PH->Prop) (e:m δ h=.ok (.ref n) h1) (hn:h1[n]?=some (.lst xs)) (h0:I 0 δ h1)
  (keep:∀ q δ h,q<=xs.length->I q δ h->h[n]?=some (.lst xs))
  (step:∀ (q:Nat) x δ h,xs[q]?=some x->I q δ h->∃ δ1,tg x δ=some δ1/\(body δ1 h).W { nx:=I (q+1),ct:=I (q+1),rt:=E.rt,bk:=E.nx })
  (fin:∀ δ h,I xs.length δ h->E.nx δ h):(kH (aX m) tg body δ h).W E:=by
 have hk:∀ {h:PH},h[n]?=some (.lst xs)->nH n xs h=true:=fun {h} e=>by
  have e3:aN h n=some xs:=by unfold aN; rw [e]
  unfold nH; rw [e3]; exact PV.beqs_self xs
 unfold kH aX;rw [e];have e2:ofSeq (.ref n) h1=.ok ⟨xs,nH n xs⟩ h1:=by
  have e3:aN h1 n=some xs:=by unfold aN; rw [hn]
  unfold ofSeq; simp only [e3]
 rw [Rs.bind_ok,e2,Rs.fl_ok];refine BF I _ 0 δ h1 h0 (fun q x δ h _ hx hi=>?_) (fun δ h hi=>?_)
 ·have hx':xs[q]?=some x:=by simpa using hx
  have:=(ab.mp hx').1;exact ⟨hk (keep q δ h (by omega) hi),step q x δ h hx' hi⟩
 ·have hi':I xs.length δ h:=by simpa using hi
  exact ⟨hk (keep _ δ h (ai _) hi'),fin δ h hi'⟩
theorem eK {N:Nat} {body:Ms} {args:List PV} {Q:PV->PH->Prop} (w:(body (args.map some++cm (N - args.length) none) h).W { nx:=fun _ h=>Q .non h,rt:=Q }):(mFn N body args h).W Q:=by
 unfold mFn;cases e:body (args.map some++cm (N - args.length) none) h with
 | nx δ h'=>rw [e] at w; exact w
 | rt p h'=>rw [e] at w; exact w
 | _=>rw [e] at w; exact w.elim
@[simp] theorem Y' {i:Nat} {p:PV}:gN i p δ=some (δ.set i (some p)):=(rfl)
@[simp] theorem XJ {n:Nat} {u:Mgs} {ps:List PV}:gTp n u (.tup ps) δ=if ps.length=n then u ps δ else none:=(rfl)
@[simp] theorem XM {t:Mg} {u:Mgs} {p:PV} {r:List PV}:gCn t u (p :: r) δ=(t p δ).bind (u r):=(rfl)
@[simp] theorem XN:gNl [] δ=some δ:=(rfl)
end
def Ext (h h':PH):Prop:=∀ (n:Nat) (o:MO),h[n]?=some o->h'[n]?=some o
theorem Ext.refl (h:PH):Ext h h:=fun _ _ e=>e
theorem Ext.trans {h h1 h2:PH} (a:Ext h h1) (b:Ext h1 h2):Ext h h2:=fun n o e=>b n o (a n o e)
theorem Ext.app (h g:PH):Ext h (h++g):=fun n o e=>by
 rw [dk (ab.mp e).1]; exact e
theorem Ext.len {h h':PH} (e:Ext h h'):h.length<=h'.length:=by
 rcases Nat.lt_or_ge h'.length h.length with z | z
 ·have:h[h'.length]?=some h[h'.length]:=by simp [z]
  have:=(ab.mp (e _ _ this)).1;omega
 ·exact z
theorem aK {h:PH} {o:MO}:(h++[o])[h.length]?=some o:=by simp
theorem dR {h:PH} {n:Nat} {o o':MO} (e:h[n]?=some o):(h.set n o')[n]?=some o':=gj (ab.mp e).1
theorem eL {h:PH} {n m:Nat} {o o':MO} (e:h[m]?=some o) (d:n≠m):(h.set n o')[m]?=some o:=by rw [bf d]; exact e
def PV.pl:Nat->PV->Bool
 | _,.non=>true
 | _,.int _=>true
 | _,.str _=>true
 | n+1,.tup xs=>xs.all (PV.pl n)
 | _,_=>false
theorem HX {x:PV} {xs:List PV} {d:D} {ds:List D} (h1:x.d=some d) (h2:PV.ds xs=some ds):PV.ds (x :: xs)=some (d :: ds):=by simp [PV.ds,h1,h2]
theorem W0 {xs:List PV} {ds:List D} (h:PV.ds xs=some ds):(PV.tup xs).d=some (.tup ds):=by simp [PV.d,h]
theorem cA {xs:List PV} {d:D} (h:(PV.tup xs).d=some d):∃ ds,PV.ds xs=some ds/\d=.tup ds:=by
 unfold PV.d at h;split at h
 ·rename_i ds e; cases h; exact ⟨ds,e,rfl⟩
 ·cases h
theorem dF {x:PV} {xs:List PV} {ds:List D} (h:PV.ds (x :: xs)=some ds):∃ d r,x.d=some d/\PV.ds xs=some r/\ds=d :: r:=by
 unfold PV.ds at h;split at h
 ·rename_i d r e1 e2; cases h; exact ⟨d,r,e1,e2,rfl⟩
 ·cases h
theorem lE:∀ (n:Nat) (x:PV),x.pl n=true->∃ d,x.d=some d/\d.depth<=n:=by
 intro n
 induction n with
 | zero=>
  intro x h;cases x <;> first | exact ⟨_,rfl,ai _⟩ | (simp [PV.pl] at h)
 | succ n ih=>
  intro x h;cases x with
  | tup xs=>
   have h:xs.all (PV.pl n)=true:=h;have many:∀ (xs:List PV),xs.all (PV.pl n)=true->∃ ds,PV.ds xs=some ds/\D.depths ds<=n:=by
    intro xs
    induction xs with
    | nil=>intro _; exact ⟨[],rfl,b9 _⟩
    | cons x xs ihx=>
     intro h;simp only [ib,cq] at h;obtain ⟨d,h1,h2⟩:=ih x h.1;obtain ⟨ds,h3,h4⟩:=ihx h.2;refine ⟨d :: ds,HX h1 h3,?_⟩
     show max d.depth (D.depths ds)<=n
     omega
   obtain ⟨ds,h1,h2⟩:=many xs h;refine ⟨.tup ds,W0 h1,?_⟩
   show D.depths ds+1<=n+1
   omega
  | _=>first | exact ⟨_,rfl,b9 _⟩ | (simp [PV.pl] at h)
theorem HY:∀ (n:Nat) (x y:PV) (d e:D),x.pl n=true->y.pl n=true->x.d=some d->y.d=some e->eqD d e=decide (x=y):=by
 intro n
 induction n with
 | zero=>
  intro x y d e hx hy h1 h2;cases x <;> first | (simp [PV.pl] at hx; done) | skip
  all_goals cases h1
  all_goals cases y <;> first | (simp [PV.pl] at hy; done) | skip
  all_goals cases h2
  all_goals simp only [eqD]
  all_goals rw [ij]
  all_goals simp
 | succ n ih=>
  intro x y d e hx hy h1 h2;have lists:∀ (xs ys:List PV) (ds es:List D),xs.all (PV.pl n)=true->ys.all (PV.pl n)=true->PV.ds xs=some ds->PV.ds ys=some es->eI ds es=decide (xs=ys):=by
   intro xs
   induction xs with
   | nil=>
    intro ys ds es _ _ h1 h2;cases h1
    cases ys with
    | nil=>cases h2; rfl
    | cons y ys=>obtain ⟨d,r,_,_,rfl⟩:=dF h2; simp [eI]
   | cons x xs ihx=>
    intro ys ds es hx hy h1 h2;obtain ⟨d,r,g1,g2,rfl⟩:=dF h1;simp only [ib,cq] at hx;cases ys with
    | nil=>cases h2; simp [eI]
    | cons y ys=>
     obtain ⟨e,q,g3,g4,rfl⟩:=dF h2;simp only [ib,cq] at hy;simp only [eI,ih x y d e hx.1 hy.1 g1 g3,ihx ys r q hx.2 hy.2 g2 g4];rw [ij];simp
  cases x with
  | tup xs=>
   obtain ⟨ds,g1,rfl⟩:=cA h1;cases y with
   | tup ys=>
    obtain ⟨es,g2,rfl⟩:=cA h2;simp only [eqD,lists xs ys ds es hx hy g1 g2];rw [ij];simp
   | non=>cases h2; simp [eqD]
   | int j=>cases h2; simp [eqD]
   | str j=>cases h2; simp [eqD]
   | _=>simp [PV.pl] at hy
  | non=>
   cases h1
   cases y with
   | tup ys=>obtain ⟨es,g2,rfl⟩:=cA h2; simp [eqD]
   | non=>cases h2; simp [eqD]
   | int j=>cases h2; simp [eqD]
   | str j=>cases h2; simp [eqD]
   | _=>simp [PV.pl] at hy
  | int i=>
   cases h1
   cases y with
   | tup ys=>obtain ⟨es,g2,rfl⟩:=cA h2; simp [eqD]
   | non=>cases h2; simp [eqD]
   | int j=>cases h2; simp only [eqD]; rw [ij]; simp
   | str j=>cases h2; simp [eqD]
   | _=>simp [PV.pl] at hy
  | str i=>
   cases h1
   cases y with
   | tup ys=>obtain ⟨es,g2,rfl⟩:=cA h2; simp [eqD]
   | non=>cases h2; simp [eqD]
   | int j=>cases h2; simp [eqD]
   | str j=>cases h2; simp only [eqD]; rw [ij]; simp
   | _=>simp [PV.pl] at hy
  | _=>simp [PV.pl] at hx
section
variable {x y:PV} {h:PH}
theorem PF (hx:x.pl 40=true) (hy:y.pl 40=true):jO x y h=some (decide (x=y)):=by
 obtain ⟨d,h1,h2⟩:=lE 40 x hx;obtain ⟨e,h3,h4⟩:=lE 40 y hy;unfold jO;rw [h1,h3];simp only [h2,if_true,HY 40 x y d e hx hy h1 h3]
theorem LZ (hx:x.pl 40=true) (hy:y.pl 40=true):vEq x y h=.ok (.bl (decide (x=y))) h:=by unfold vEq; rw [PF hx hy]; rfl
@[simp] theorem X3 {i j:Int}:vEq (.int i) (.int j) h=.ok (.bl (decide (i=j))) h:=by rw [LZ rfl rfl]; congr 2; simp
@[simp] theorem X4 {i j:Str}:vEq (.str i) (.str j) h=.ok (.bl (decide (i=j))) h:=by rw [LZ rfl rfl]; congr 2; simp
theorem Dt {ys:List PV} (hx:x.pl 39=true) (hy:ys.all (PV.pl 39)=true):wA x ys=some (decide (x∈ys)):=by
 have key:∀ ys:List PV,ys.all (PV.pl 39)=true->∃ ds,PV.ds ys=some ds/\D.depths ds<=39/\∀ d,x.d=some d->(ds.any fun e=>eqD e d)=decide (x∈ys):=by
  intro ys
  induction ys with
  | nil=>intro _; exact ⟨[],rfl,b9 _,fun _ _=>by simp⟩
  | cons y ys ih=>
   intro h;simp only [ib,cq] at h;obtain ⟨e,h1,h2⟩:=lE 39 y h.1;obtain ⟨ds,h3,h4,h5⟩:=ih h.2;refine ⟨e :: ds,HX h1 h3,?_,fun d hd=>?_⟩
   ·show max e.depth (D.depths ds)<=39
    omega
   ·rw [j8,h5 d hd,HY 39 y x e d h.1 hx h1 hd,ij];simp only [Bool.or_eq_true,decide_eq_true_eq,bc];constructor
    ·rintro (h | h)
     ·exact .inl h.symm
     ·exact .inr h
    ·rintro (h | h)
     ·exact .inl h.symm
     ·exact .inr h
 obtain ⟨d,h1,h2⟩:=lE 39 x hx;obtain ⟨ds,h3,h4,h5⟩:=key ys hy;unfold wA;rw [h1,h3];simp only [show D.depths ds<=40 by omega,if_true,h5 d h1]
theorem HZ {n:Nat} {ys:List PV} (e:h[n]?=some (.lst ys)) (hx:x.pl 39=true) (hy:ys.all (PV.pl 39)=true):vIn x (.ref n) h=.ok (.bl (decide (x∈ys))) h:=by
 have e3:aN h n=some ys:=by unfold aN; rw [e]
 unfold vIn FL; simp only [e3,Dt hx hy]; rfl
theorem FQ {n:Nat} {ys:List PV} (e:h[n]?=some (.lst ys)) (hx:x.pl 39=true) (hy:ys.all (PV.pl 39)=true):wB x (.ref n) h=.ok (.bl (!decide (x∈ys))) h:=by
 have e3:aN h n=some ys:=by unfold aN; rw [e]
 unfold wB FL; simp only [e3,Dt hx hy]; rfl
theorem Du {n m:Nat} {xs ys:List PV} (e1:h[n]?=some (.lst xs)) (e2:h[m]?=some (.lst ys)) (hx:xs.all (PV.pl 39)=true) (hy:ys.all (PV.pl 39)=true):jO (.ref n) (.ref m) h=some (decide (xs=ys)):=by
 have e3:cX (.ref n) h=some xs:=by unfold cX aN; simp only [e1]
 have e4:cX (.ref m) h=some ys:=by unfold cX aN; simp only [e2]
 have hx':(PV.tup xs).pl 40=true:=hx;have hy':(PV.tup ys).pl 40=true:=hy;obtain ⟨d,h1,h2⟩:=lE 40 _ hx';obtain ⟨e,h3,h4⟩:=lE 40 _ hy';obtain ⟨ds,g1,rfl⟩:=cA h1;obtain ⟨es,g2,rfl⟩:=cA h3;have h5:=HY 40 _ _ _ _ hx' hy' h1 h3;have h2':D.depths ds+1<=40:=h2;have h5':eI ds es=decide (xs=ys):=by
  have:eI ds es=decide (PV.tup xs=PV.tup ys):=h5;rw [this,ij]; simp
 unfold jO;have n1:(PV.ref n).d=none:=rfl;rw [n1];simp only [e3,e4,g1,g2,show D.depths ds<=40 by omega,if_true,h5']
theorem I0 {n m:Nat} {xs ys:List PV} (e1:h[n]?=some (.lst xs)) (e2:h[m]?=some (.lst ys)) (hx:xs.all (PV.pl 39)=true) (hy:ys.all (PV.pl 39)=true):vNe (.ref n) (.ref m) h=.ok (.bl (!decide (xs=ys))) h:=by unfold vNe; rw [Du e1 e2 hx hy]; rfl
end
end L2
namespace L2
section
variable {α:Type} {a b c d e f g:α} {r:List α}
theorem BG {xs:List α} {v:α} (i:Nat) (h:xs[i]?=some v):atI xs (i:Int)=some v:=nX h
@[simp] theorem Yi:atI (a :: r) 0=some a:=BG 0 rfl
@[simp] theorem Yj:atI (a :: b :: r) 1=some b:=BG 1 rfl
@[simp] theorem Yk:atI (a :: b :: c :: r) 2=some c:=BG 2 rfl
theorem PJ {xs:List α} {i:Int} (h:xs≠[]):∃ v,atI xs (i % (xs.length:Int))=some v/\v∈xs:=by
 have h0:0 < xs.length:=kg.mpr h;obtain ⟨v,h1,h2⟩:=Te (xs:=xs) (i:=i % (xs.length:Int)) (i7 _ (by omega)) (ji _ (by omega));exact ⟨v,h1,cg h2⟩
end
end L2
namespace L2
open PySem PySem.Spec PyProof.Rows PySem.SeqAt
open PySem.AutoSeq1 (wpAny_loadPart')
open PySem.MeetsSeq PySem.MeetsSeq2 PySem.MeetsSeq3
def W1 (A:Around) (s:Shared) (v u:Value) (b:Bool):Prop:=∀ (prog:Program) (w:World) (E:Value->Shared->Prop) (Q:Value->Shared->Prop),Q (.bool b) s->wpAny (model prog w) A (richCompare .Lt v u) Q E s
def W2 (A:Around) (s:Shared) (v u:Value) (d e:D):Prop:=EqAt A s v u (eqD d e)/\(eqD d e=false->∀ b,ltD d e=some b->W1 A s v u b)
abbrev Ao (A:Around) (s:Shared):List Value->List Value->List D->List D->Prop:=fun vs us ds es=>vs.length=ds.length/\us.length=es.length/\∀ (j:Nat) v u d e,vs[j]?=some v->us[j]?=some u->ds[j]?=some d->es[j]?=some e->W2 A s v u d e
theorem Ao.tail {A:Around} {s:Shared} {v u:Value} {vs us:List Value} {d e:D} {ds es:List D} (h:Ao A s (v :: vs) (u :: us) (d :: ds) (e :: es)):W2 A s v u d e/\Ao A s vs us ds es:=
 ⟨h.2.2 0 v u d e rfl rfl rfl rfl,by have:=h.1; simpa using this,by have:=h.2.1; simpa using this,fun j v u d e h1 h2 h3 h4=>h.2.2 (j+1) v u d e (by simpa using h1) (by simpa using h2) (by simpa using h3) (by simpa using h4)⟩
theorem BH (l b:Addr) (items items2:Array Value) (n n2:Nat) (dd dd2:Option Addr) (sl sl2:Array (Option Value)) (ds es:List D) (c:Bool) (hc:pI ds es=some c):
  Meets (Builtin.«tuple.__lt__» ⟨[.ref l,.ref b],[]⟩)
   (fun A R s=>s.heap.get? l=some { cls:=.type "tuple",dict:=dd,data:=.seq items n,slots:=sl }/\s.heap.get? b=some { cls:=.type "tuple",dict:=dd2,data:=.seq items2 n2,slots:=sl2 }/\
    Ao A.in1 s items.toList items2.toList ds es/\R (.ok (.ret (.bool c))) s):=
 .of_wp fun prog w A R s h=>by
  obtain ⟨hp,g,d,tk,os⟩:=s; obtain ⟨hl,hb,hit,h⟩:=h;have f2:=AutoSeq1.sub_tuple_tuple;have z1:items.size=ds.length:=by rw [<- hit.1]; simp
  have z2:items2.size=es.length:=by rw [<- hit.2.1]; simp
  wp_walk using wpAny_loadPart' hl,wpAny_loadPart' hb,wpAny_forIn_list _ (fun rest b s'=>b.1=none/\s'=⟨hp,g,d,tk,os⟩/\∃ (vs ws:List Value) (ns' ms':List D),rest=vs.zip ws/\
   Ao A.in1 ⟨hp,g,d,tk,os⟩ vs ws ns' ms'/\ns'.length+items2.size=ms'.length+items.size/\pI ns' ms'=some c) _
  case turn=>
   rintro ⟨y,x⟩ rest b s' ⟨hb',rfl,vs,ws,ns',ms',hz,hvi,hlen,hR⟩;cases vs with
   | nil=>rw [List.zip_nil_left] at hz; cases hz
   | cons v vs=>
    cases ws with
    | nil=>rw [List.zip_nil_right] at hz; cases hz
    | cons u ws=>
     rw [List.zip_cons_cons] at hz;injection hz with hyx hrest;injection hyx with hy hx;subst hy hx;cases ns' with
     | nil=>have:=hvi.1; simp at this
     | cons a ns'=>
      cases ms' with
      | nil=>have:=hvi.2.1; simp at this
      | cons e ms'=>
       obtain ⟨⟨h1,h2⟩,ht⟩:=Ao.tail hvi;simp only [da] at hlen;simp only [pI] at hR;refine aa (h1 prog w _ _ ?_);cases q:eqD a e with
       | true=>
        rw [q,if_pos rfl] at hR
        wp_walk
        exact ⟨rfl,rfl,_,_,_,_,hrest,ht,by omega,hR⟩
       | false=>
        rw [q,if_neg bz] at hR;have hri:=h2 q c hR prog w
        wp_walk using hri
        exact ⟨_,rfl,by simpa using h⟩
  case fin=>
   rintro ⟨b1,b2⟩ s' ⟨hb',rfl,vs,ws,ns',ms',hz,hvi,hlen,hR⟩;simp only at hb';subst hb';have hv:c=decide (items.size < items2.size):=by
    cases ns' with
    | nil=>
     cases ms' with
     | nil=>
      simp only [List.length_nil] at hlen;simp only [pI] at hR;cases hR
      exact (decide_eq_false (by omega)).symm
     | cons e ms'=>
      simp only [List.length_nil,da] at hlen;simp only [pI] at hR;cases hR
      exact (decide_eq_true (by omega)).symm
    | cons a ns'=>
     cases ms' with
     | nil=>
      simp only [List.length_nil,da] at hlen;simp only [pI] at hR;cases hR
      exact (decide_eq_false (by omega)).symm
     | cons e ms'=>
      exfalso;cases vs with
      | nil=>have:=hvi.1; simp at this
      | cons v vs=>
       cases ws with
       | nil=>have:=hvi.2.1; simp at this
       | cons u ws=>rw [List.zip_cons_cons] at hz; cases hz
   rw [hv] at h
   wp_walk
   exact ⟨_,rfl,by simpa [Builtin.Tuple.tupleCompareSizes] using h⟩
  case h=>
   exact ⟨rfl,rfl,items.toList,items2.toList,ds,es,rfl,hit,by omega,hc⟩
section
variable {X:Cx} {pins:List (Addr×Obj)} {σ:St} {H:Hp} {s:Shared}
theorem XO (I:Inv X pins σ H s):∀ (n:Nat) (d e:D) (A:Around) (x y:V) (v u:Value) (b:Bool),d.depth<=n->A.units+n < cLine->Rep X.K H d x->Rep X.K H e y->RelV x v->RelV y u->ltD d e=some b->W1 A s v u b:=by
 intro n
 induction n with
 | zero=>
  intro d e A x y v u b hd hu hx hy rx ry hb;cases d with
  | tup ds=>exact absurd hd (by show ¬ D.depths ds+1<=0; omega)
  | int i=>
   cases e with
   | int j=>
    cases hx; cases hy;obtain ⟨t,rfl⟩:=rx;obtain ⟨t',rfl⟩:=ry;simp only [ltD] at hb;cases hb
    exact fun prog w E Q q=>(PyProof.Rows.lt_int q:wpAny (model prog w) A (cu .Lt _ _) Q E s)
   | _=>simp [ltD] at hb
  | str i=>
   cases e with
   | str j=>
    cases hx; cases hy;obtain ⟨t,rfl⟩:=rx;obtain ⟨t',rfl⟩:=ry;simp only [ltD] at hb;cases hb
    exact fun prog w E Q q=>(PyProof.Rows.lt_str q:wpAny (model prog w) A (cu .Lt _ _) Q E s)
   | _=>simp [ltD] at hb
  | _=>cases e <;> simp [ltD] at hb
 | succ n ih=>
  intro d e A x y v u b hd hu hx hy rx ry hb
  by_cases h0:d.depth<=n
  ·exact ih d e A x y v u b h0 (by omega) hx hy rx ry hb
  ·cases d with
   | tup ds=>
    cases e with
    | tup es=>
     have hds:D.depths ds<=n:=by have:D.depths ds+1<=n+1:=hd; omega
     obtain ⟨a,vs,rfl,q,r⟩:=hx;cases rx
     obtain ⟨its,rv,p,_⟩:=I.tuple q;obtain ⟨a',vs',rfl,q',r'⟩:=hy;cases ry
     obtain ⟨its',rv',p',_⟩:=I.tuple q';have hb':pI ds es=some b:=by simpa [ltD] using hb
     obtain ⟨⟨cls,dd,data,sl⟩,ho,hc,m,hdt⟩:=id p;obtain ⟨⟨cls2,dd2,data2,sl2⟩,ho2,hc2,m2,hd2⟩:=id p';simp only at hc hdt hc2 hd2;subst hc hdt hc2 hd2;intro prog w E Q hq;refine richCompare_meets_room (op:=.Lt) ⟨_,ho,rfl⟩ ⟨_,ho2,rfl⟩ PySem.F.slot_tuple_lt PySem.F.entry_tuple_lt (PySem.F.args_tuple_lt_2 _ _) (BH a a' its.toArray its'.toArray m m2 dd dd2 sl sl2 ds es b hb')
      ⟨ho,ho2,⟨?_,?_,?_⟩,show Value.bool b≠Value.notImplemented/\Q (.bool b) s from ⟨(fun x=>nomatch x),hq⟩⟩ (by omega)
     ·have l1:=r.length;have l3:=rv.length
      show its.length=ds.length
      omega
     ·have l1:=r'.length;have l3:=rv'.length
      show its'.length=es.length
      omega
     ·intro j v u d e h1 h2 h3 h4;obtain ⟨xv,hxv,hrx⟩:=r.at h3;obtain ⟨yv,hyv,hry⟩:=r'.at h4;obtain ⟨xu,hxu,hru⟩:=rv.get hxv;obtain ⟨yu,hyu,hru'⟩:=rv'.get hyv;have e1:v=xu:=by
       have:its[j]?=some v:=h1;rw [hxu] at this;exact (bh this).symm
      have e2:u=yu:=by
       have:its'[j]?=some u:=h2;rw [hyu] at this;exact (bh this).symm
      subst e1 e2;have hdj:=D.depths_le h3;refine ⟨Lp I (n:=n) (by omega) ?_ hrx hry hru hru',fun _ b hb=>ih d e _ xv yv v u b (by omega) ?_ hrx hry hru hru' hb⟩
      all_goals (show A.units+1+n < cLine; omega)
    | _=>simp [ltD] at hb
   | _=>exact absurd (b9 n) h0
end
variable {C:MC} {k:Nat} {X:Cx}
def M3 (x y:PV):Option Bool:=match x.d,y.d with
 | some d,some e=>if d.depth<=40 then ltD d e else none
 | _,_=>none
def jZ:PV->PV->PH->Rs PV:=fun x y h=>match x,y with
 | .tup xs,.tup ys=>ofB (M3 (.tup xs) (.tup ys)) h
 | x,y=>vLt x y h
theorem TJ (hu:X.A.units+64 < cLine) (K:af) (hK:X.K=K):OpR X (cu .Lt) (fun x y H Q=>∃ d e b,Rep K H d x/\Rep K H e y/\d.depth<=40/\ltD d e=some b/\Q (.bl b) H):=by
 subst hK;intro pins s σ H x y v u Q I rx ry h;obtain ⟨d,e,b,hx,hy,hd,hb,q⟩:=h;exact XO I 40 d e X.A x y v u b hd (by omega) hx hy rx ry hb X.prog X.w X.xe _ ⟨.bl _,H,I,rfl,q⟩
theorem BI:OpS C k X (cu .Lt) jZ:=fun c=>((TJ c.hu64 C.K c.K).or (Xw c)).imp fun x y H Q h=>by
 obtain ⟨φ,h,p,q,rh,rx,ry,po⟩:=h;unfold jZ at po;split at po
 ·obtain ⟨b,e,po⟩:=po.ofB;unfold M3 at e;split at e
  ·rename_i d e' h1 h2;split at e
   ·rename_i hd;exact .inl ⟨d,e',b,rx.rep h1,ry.rep h2,hd,e,po.val rh rfl⟩
   ·cases e
  ·cases e
 ·exact .inr ⟨φ,h,p,q,rh,rx,ry,po⟩
section
variable {h:PH}
@[simp] theorem UP {i j:Int}:jZ (.int i) (.int j) h=.ok (.bl (decide (i < j))) h:=(rfl)
@[simp] theorem UQ {i j:Str}:jZ (.str i) (.str j) h=.ok (.bl (decide (i.cps.toList < j.cps.toList))) h:=(rfl)
def ltL (f:PV->PV->Option Bool):List PV->List PV->Option Bool
 | [],[]=>some false
 | [],_ :: _=>some true
 | _ :: _,[]=>some false
 | x :: xs,y :: ys=>if x=y then ltL f xs ys else f x y
def ltP:Nat->PV->PV->Option Bool
 | _,.int a,.int b=>some (decide (a < b))
 | _,.str a,.str b=>some (decide (a.cps.toList < b.cps.toList))
 | n+1,.tup xs,.tup ys=>ltL (ltP n) xs ys
 | _,_,_=>none
theorem W3:∀ (n:Nat) (x y:PV) (d e:D),x.pl n=true->y.pl n=true->x.d=some d->y.d=some e->ltD d e=ltP n x y:=by
 intro n
 induction n with
 | zero=>
  intro x y d e hx hy h1 h2;cases x <;> first | (simp [PV.pl] at hx; done) | skip
  all_goals cases h1
  all_goals cases y <;> first | (simp [PV.pl] at hy; done) | skip
  all_goals cases h2
  all_goals simp [ltD,ltP]
 | succ n ih=>
  intro x y d e hx hy h1 h2;have lists:∀ (xs ys:List PV) (ds es:List D),xs.all (PV.pl n)=true->ys.all (PV.pl n)=true->PV.ds xs=some ds->PV.ds ys=some es->pI ds es=ltL (ltP n) xs ys:=by
   intro xs
   induction xs with
   | nil=>
    intro ys ds es _ _ h1 h2;cases h1
    cases ys with
    | nil=>cases h2; simp [pI,ltL]
    | cons y ys=>obtain ⟨d,r,_,_,rfl⟩:=dF h2; simp [pI,ltL]
   | cons x xs ihx=>
    intro ys ds es hx hy h1 h2;obtain ⟨d,r,g1,g2,rfl⟩:=dF h1;simp only [ib,cq] at hx;cases ys with
    | nil=>cases h2; simp [pI,ltL]
    | cons y ys=>
     obtain ⟨e,q,g3,g4,rfl⟩:=dF h2;simp only [ib,cq] at hy;simp only [pI,ltL,HY n x y d e hx.1 hy.1 g1 g3,ihx ys r q hx.2 hy.2 g2 g4,ih x y d e hx.1 hy.1 g1 g3,decide_eq_true_eq]
  cases x with
  | tup xs=>
   obtain ⟨ds,g1,rfl⟩:=cA h1;cases y with
   | tup ys=>
    obtain ⟨es,g2,rfl⟩:=cA h2;simp only [ltD,lists xs ys ds es hx hy g1 g2,ltP]
   | non=>cases h2; simp [ltD,ltP]
   | int j=>cases h2; simp [ltD,ltP]
   | str j=>cases h2; simp [ltD,ltP]
   | _=>simp [PV.pl] at hy
  | non=>cases h1; cases y <;> first | (simp [PV.pl] at hy; done) | (obtain ⟨es,g2,rfl⟩:=cA h2; simp [ltD,ltP]; done) | (cases h2; simp [ltD,ltP])
  | int i=>cases h1; cases y <;> first | (simp [PV.pl] at hy; done) | (obtain ⟨es,g2,rfl⟩:=cA h2; simp [ltD,ltP]; done) | (cases h2; simp [ltD,ltP])
  | str i=>cases h1; cases y <;> first | (simp [PV.pl] at hy; done) | (obtain ⟨es,g2,rfl⟩:=cA h2; simp [ltD,ltP]; done) | (cases h2; simp [ltD,ltP])
  | _=>simp [PV.pl] at hx
theorem M4 {xs ys:List PV} {b:Bool} (hx:(PV.tup xs).pl 40=true) (hy:(PV.tup ys).pl 40=true) (e:ltL (ltP 39) xs ys=some b):jZ (.tup xs) (.tup ys) h=.ok (.bl b) h:=by
 obtain ⟨d,h1,h2⟩:=lE 40 _ hx;obtain ⟨d',h3,h4⟩:=lE 40 _ hy;have:=W3 40 _ _ d d' hx hy h1 h3;have e':ltP 40 (.tup xs) (.tup ys)=some b:=e;unfold jZ M3;simp only [h1,h3,h2,if_true,this,e'];rfl
end
end L2
namespace L2
open PySem PySem.Spec PyProof.Rows
variable {C:MC} {k:Nat} {X:Cx}
theorem FS {M:Program×World} {A:Around} {E:Value->Shared->Prop} {s:Shared} {l:Addr} {items:Array Value} {Q:Value->Shared->Prop} (hl:s.heap.IsList l items)
  (h:∀ s₂:Shared,s₂={ s with heap:=s.heap.push { cls:=.type "list_iterator",data:=.fields #[.ref l,.int 0 0] } }->
   (s₂.heap.IsListIter s.heap.objs.size l 0/\s₂.heap.IsList l items)->(∀ b∈[s.heap.objs.size,l],b < s₂.heap.objs.size)->l≠s.heap.objs.size->Q (.ref s.heap.objs.size) s₂):
  wpAny (model M.1 M.2) A (pyIter (.ref l)) Q E s:=by
 have hlt:l < s.heap.objs.size:=by obtain ⟨_,e,_⟩:=hl; exact az e
 refine k8 hl (h _ rfl ⟨⟨_,a8 _ rfl,rfl,rfl⟩,hl.push _⟩ (fun b hb=>?_) (a9 hlt))
 show b < (s.heap.push _).objs.size
 rw [kj];rcases bc.mp hb with rfl | hb
 ·exact Nat.lt_succ_self _
 ·rcases bc.mp hb with rfl | hb
  ·exact Nat.lt_succ_of_lt hlt
  ·cases hb
theorem Jo:Cxt C k X->bS X (.builtin "sum") (fun xs H Q=>∃ (p:Addr) (ns:List Int),xs=[.ref p]/\SqL C.K H p (ns.map V.int)/\Q (.int ns.sum) H):=fun c=>by
 intro pins s σ H xs us Q I r h;obtain ⟨p,ns,rfl,hq,q⟩:=h;obtain ⟨u,rfl,ru⟩:=vals1 r;cases ru
 rw [<- c.K] at hq;obtain ⟨its,rv,pl,hz⟩:=I.list hq;have hi:IntsAre its ns:=intsAre_of rv;obtain ⟨ys,hy⟩:=hi.allInts.items;have hl:=pl.isList;rw [hy] at hl;refine sum_intListG (I.ok.hd c.calm) hl fun h' tk t' hk=>?_;have e:preSum (numAt ys) ys.size=ns.sum:=by
  have e1:=preSum_eq ys ys.size;rw [List.take_of_length_le (by simp)] at e1;rw [e1,<- nums_intItems,<- hy];have:=hi.numsOf;rw [show its.toArray.toList=its from rfl,this]
 rw [e];exact ⟨.int ns.sum,H,I.kept hk,⟨_,rfl⟩,q⟩
theorem Jp (hc:X.calm=true) (K:af) (hK:X.K=K):bS X (.builtin "all") (fun xs H Q=>∃ (p:Addr) (bs:List Bool),xs=[.ref p]/\SqL K H p (bs.map V.bl)/\Q (.bl (bs.all id)) H):=by
 subst hK;intro pins s σ H xs us Q I r h;obtain ⟨p,bs,rfl,hq,q⟩:=h;obtain ⟨u,rfl,ru⟩:=vals1 r;cases ru
 obtain ⟨its,rv,pl,hz⟩:=I.list hq;have hlen:=rv.length;rw [ae] at hlen;refine call_all_walk (FS (M:=(X.prog,X.w)) pl.isList fun s₂ e st hfp hlI=>?_);subst e;refine ⟨_,_,_,_,_,_,fun i=>(bs[i]?).getD true,rfl,Walks.list (A:=X.A.in1) (I.ok.hd hc) _ p hlI its.toArray,st,?_,fun h' tk hk=>?_⟩
 ·intro i v s' Q' E' hP hQ;have hP':its[i]?=some v:=by simpa using hP
  obtain ⟨hi,_⟩:=ab.mp hP';have hb:i < bs.length:=by omega
  obtain ⟨u,hu,ru⟩:=rv.get (show (bs.map V.bl)[i]?=some (.bl bs[i]) by simp [hb]);rw [hP'] at hu;cases hu
  cases ru
  refine i3 ?_;have:(bs[i]?).getD true=bs[i]:=by simp [hb]
  rw [<- this];exact hQ
 ·have e:((ba its.toArray.size).all fun i=>(bs[i]?).getD true)=bs.all id:=by
   have hs:its.toArray.size=bs.length:=by simp [hlen]
   rw [hs,ij,cw,cw];constructor
   ·intro h b hb;obtain ⟨i,hi,rfl⟩:=List.mem_iff_getElem.mp hb;have:=h i (ia.mpr hi);simpa [hi] using this
   ·intro h i hi;have hi':=ia.mp hi;have:=h bs[i] (fm hi');simpa [hi'] using this
  rw [e];exact ⟨.bl _,H,I.kept (old_kept hk),rfl,q⟩
def tW:List PV->Option (List Int)
 | []=>some []
 | .int i :: r=>(tW r).map (i :: ·)
 | _ :: _=>none
def Jq:List PV->Option (List Bool)
 | []=>some []
 | .bl i :: r=>(Jq r).map (i :: ·)
 | _ :: _=>none
theorem vA {φ:List Addr} {H:Hp}:∀ {xs:List PV} {vs:List V} {ns:List Int},RVs C φ H xs vs->tW xs=some ns->vs=ns.map V.int
 | [],[],_,_,e=>by cases e; rfl
 | x :: xs,v :: vs,ns,⟨h,r⟩,e=>by
  cases x with
  | int i=>
   cases h
   simp only [tW,a7] at e;obtain ⟨m,e,rfl⟩:=e;rw [vA r e]; rfl
  | _=>cases e
 | [],_ :: _,_,h,_=>h.elim
 | _ :: _,[],_,h,_=>h.elim
theorem M5 {φ:List Addr} {H:Hp}:∀ {xs:List PV} {vs:List V} {ns:List Bool},RVs C φ H xs vs->Jq xs=some ns->vs=ns.map V.bl
 | [],[],_,_,e=>by cases e; rfl
 | x :: xs,v :: vs,ns,⟨h,r⟩,e=>by
  cases x with
  | bl i=>
   cases h
   simp only [Jq,a7] at e;obtain ⟨m,e,rfl⟩:=e;rw [M5 r e]; rfl
  | _=>cases e
 | [],_ :: _,_,h,_=>h.elim
 | _ :: _,[],_,h,_=>h.elim
theorem Ap (ns:List Int):tW (ns.map PV.int)=some ns:=by
 induction ns with
 | nil=>rfl
 | cons n ns ih=>simp [tW,ih]
theorem M6 (ns:List Bool):Jq (ns.map PV.bl)=some ns:=by
 induction ns with
 | nil=>rfl
 | cons n ns ih=>simp [Jq,ih]
def M7:List PV->PH->Rs PV:=fun xs h=>match xs with
 | [x]=>match cX x h with
  | some ys=>match tW ys with
   | some ns=>.ok (.int ns.sum) h
   | none=>.bad
  | none=>.bad
 | _=>.bad
def FT:List PV->PH->Rs PV:=fun xs h=>match xs with
 | [x]=>match cX x h with
  | some ys=>match Jq ys with
   | some ns=>.ok (.bl (ns.all id)) h
   | none=>.bad
  | none=>.bad
 | _=>.bad
theorem W4:hV C k X (.builtin "sum") M7:=fun c=>(Jo c).imp fun vs H Q h=>by
 obtain ⟨φ,h,ps,rh,rv,po⟩:=h;unfold M7 at po;split at po
 ·obtain ⟨v,rfl,rx⟩:=rv.one;split at po
  ·rename_i ys e;split at po
   ·rename_i ns en;obtain ⟨a,vs,rfl,sa,ra⟩:=dN rh rx e;rw [vA ra en] at sa;exact ⟨a,ns,rfl,sa,po.val rh rfl⟩
   ·exact po.elim
  ·exact po.elim
 ·exact po.elim
theorem M8:hV C k X (.builtin "all") FT:=fun c=>(Jp c.calm C.K c.K).imp fun vs H Q h=>by
 obtain ⟨φ,h,ps,rh,rv,po⟩:=h;unfold FT at po;split at po
 ·obtain ⟨v,rfl,rx⟩:=rv.one;split at po
  ·rename_i ys e;split at po
   ·rename_i ns en;obtain ⟨a,vs,rfl,sa,ra⟩:=dN rh rx e;rw [M5 ra en] at sa;exact ⟨a,ns,rfl,sa,po.val rh rfl⟩
   ·exact po.elim
  ·exact po.elim
 ·exact po.elim
theorem Dv {h:PH} {n:Nat} {ns:List Int} (e:h[n]?=some (.lst (ns.map PV.int))):M7 [.ref n] h=.ok (.int ns.sum) h:=by
 have e1:cX (.ref n) h=some (ns.map PV.int):=by unfold cX aN; simp only [e]
 unfold M7; simp only [e1,Ap]
theorem wM {h:PH} {n:Nat} {ns:List Bool} (e:h[n]?=some (.lst (ns.map PV.bl))):FT [.ref n] h=.ok (.bl (ns.all id)) h:=by
 have e1:cX (.ref n) h=some (ns.map PV.bl):=by unfold cX aN; simp only [e]
 unfold FT; simp only [e1,M6]
open Classical in
noncomputable def Jr:PV->PV->PH->Rs PV:=fun x y h=>match x,y with
 | .str z,.int n=>if z.length<=16/\-(2 ^ 63)<=n/\n<=1000 then .ok (.str (Txt.mul z n)) h else .bad
 | _,_=>.bad
theorem S7:OpS C k X (ff .Mult) Jr:=fun c=>by
 intro pins s σ H x y v u Q I rx ry h;obtain ⟨φ,h,p,q,rh,rp,rq,po⟩:=h;unfold Jr at po;split at po
 ·cases rp; cases rq;obtain ⟨t,rfl⟩:=rx;obtain ⟨t',rfl⟩:=ry;obtain ⟨⟨h1,h2,h3⟩,po⟩:=po.ite;refine PySem.W.KXi.mul rfl h1 h2 (by omega) fun t'' tk _ _=>⟨.str _,H,I.tok _,⟨_,rfl⟩,po.val rh rfl⟩
 ·exact po.elim
end L2
namespace L2
open PySem
section
variable {h:PH} {lo hi:Option Int}
@[simp] theorem X5 {xs:List PV}:vSl (.tup xs) lo hi h=.ok (.tup (iT xs lo hi)) h:=(rfl)
@[simp] theorem XQ {xs:List PV}:vSl (.fl xs) lo hi h=.ok (.ref h.length) (h++[.lst (iT xs lo hi)]):=(rfl)
theorem BJ {n:Nat} {xs:List PV} (e:h[n]?=some (.lst xs)):vSl (.ref n) lo hi h=.ok (.ref h.length) (h++[.lst (iT xs lo hi)]):=by
 have e3:aN h n=some xs:=by unfold aN; rw [e]
 unfold vSl; simp only [e3]
@[simp] theorem XR {a b:Bool}:vIs (.bl a) (.bl b) h=.ok (.bl (a == b)) h:=(rfl)
@[simp] theorem UR {a b:Bool}:wF (.bl a) (.bl b) h=.ok (.bl (!(a == b))) h:=(rfl)
@[simp] theorem X6 {x:PV}:vIs x .non h=.ok (.bl (kT x)) h:=(rfl)
@[simp] theorem TK {x:PV}:wF x .non h=.ok (.bl (!kT x)) h:=(rfl)
end
section
variable {δ:Ev} {h h1:PH} {js:List (Option Nat)} {tg:Mg} {tst:Ev->PH->Rs Bool} {elt:Me} {g:PH->Bool} {n:Nat}
theorem mJ {δ0:Ev} {Q:PV->PH->Prop} (I:Nat->PH->Prop):∀ (xs:List PV) (k:Nat) (h:PH),I k h->
  (∀ i x h,k<=i->xs[i - k]?=some x->I i h->g h=true/\∃ δ1,tg x δ0=some δ1/\(tst δ1 h).W fun b h'=>if b=true then (elt δ1 h').W fun p h''=>∃ ys,h''[n]?=some (.lst ys)/\ys.length < 16777216/\I (i+1) (h''.set n (.lst (ys++[p]))) else I (i+1) h')->
  (∀ h,I (k+xs.length) h->g h=true/\Q (.ref n) h)->(jY g tg tst elt δ0 n xs h).W Q
 | [],k,h,i0,_,fin=>by
  obtain ⟨h1,h2⟩:=fin h i0;simp [jY,h1,h2]
 | x :: xs,k,h,i0,step,fin=>by
  obtain ⟨h1,δ1,h2,h3⟩:=step k x h (ai _) (by simp) i0;have go:∀ h2,I (k+1) h2->(jY g tg tst elt δ0 n xs h2).W Q:=fun h2 i2=>
   mJ I xs (k+1) h2 i2 (fun i y h hk hy=>step i y h (by omega) (by
    have:i - k=(i - (k+1))+1:=by omega
    rw [this,fv]; exact hy)) (fun h hi=>fin h (by
    have e:k+(x :: xs).length=k+1+xs.length:=by simp; omega
    rw [e]; exact hi))
  unfold jY;rw [if_pos h1,h2]
  show (Rs.bind (tst δ1 h) _).W Q
  rw [BE];refine LU h3 fun b h' hb=>?_;cases b with
  | false=>exact go h' (by simpa using hb)
  | true=>
   show (Rs.bind (elt δ1 h') _).W Q
   rw [BE];refine LU (show (elt δ1 h').W _ from by simpa using hb) fun p h'' hp=>?_
   obtain ⟨ys,e,hz,hi⟩:=hp;have e':dE h'' n=some ys:=by unfold dE; rw [e]
   simp [e',hz];exact go _ hi
theorem sD {α:Type} {mi:Mi} {ys:List α} {emb:α->PV} (f:α->Option PV) (e:mi δ h=.ok ⟨ys.map emb,g⟩ h1) (hg:∀ h,Ext h1 h->g h=true) (hz:ys.length<=16777216)
  (step:∀ y∈ys,∃ δ1,tg (emb y) (bT js δ)=some δ1/\∀ h,Ext h1 h->match f y with
   | none=>tst δ1 h=.ok false h
   | some p=>tst δ1 h=.ok true h/\elt δ1 h=.ok p h):aY js mi tg tst elt δ h=.ok (.ref h1.length) (h1++[.lst (ys.filterMap f)]):=by
 have w:(aY js mi tg tst elt δ h).W fun p h'=>p=.ref h1.length/\h'=h1++[.lst (ys.filterMap f)]:=by
  unfold aY;rw [e,Rs.bind_ok];refine mJ (fun i h'=>h'=h1++[.lst ((ys.take i).filterMap f)]) (ys.map emb) 0 _ (by simp) (fun i x h' _ hx hi=>?_) (fun h' hi=>?_)
  ·subst hi;have hx:(ys.map emb)[i]?=some x:=by simpa using hx
   rw [au] at hx;obtain ⟨y,hy,rfl⟩:=a7.mp hx;have hil:=(ab.mp hy).1;obtain ⟨δ1,ht,hs⟩:=step y (cg hy);have hs:=hs (h1++[.lst ((ys.take i).filterMap f)]) (Ext.app _ _);have htk:ys.take (i+1)=ys.take i++[y]:=by rw [g9,hy]; rfl
   refine ⟨hg _ (Ext.app _ _),δ1,ht,?_⟩;cases ef:f y with
   | none=>
    rw [ef] at hs;rw [hs];simp [htk,ef]
   | some p=>
    rw [ef] at hs;rw [hs.1];simp [hs.2];refine ⟨?_,by simp [htk,ef]⟩;have:=List.length_filterMap_le f (ys.take i);rw [d9] at this;omega
  ·subst hi;simp;exact hg _ (Ext.app _ _)
 obtain ⟨p,h',e,rfl,rfl⟩:=kI w;exact e
theorem cZ {m:Me} {xs:List PV} (e:m δ h=.ok (.ref n) h1) (hn:h1[n]?=some (.lst xs)):aX m δ h=.ok ⟨xs,nH n xs⟩ h1:=by
 unfold aX;have e3:aN h1 n=some xs:=by unfold aN; rw [hn]
 rw [e,Rs.bind_ok];unfold ofSeq; simp only [e3]
theorem cK {xs:List PV} (hn:h1[n]?=some (.lst xs)):∀ h,Ext h1 h->nH n xs h=true:=fun h hx=>by
 have e3:aN h n=some xs:=by unfold aN; rw [hx _ _ hn]
 unfold nH; rw [e3]; exact PV.beqs_self xs
theorem M9 {m:Me} {xs:List PV} (e:m δ h=.ok (.tup xs) h1):aX m δ h=.ok ⟨xs,fun _=>true⟩ h1:=by
 unfold aX;rw [e]; rfl
theorem cE {α:Type} {m:Me} {ys:List α} {emb:α->PV} (f:α->Option PV) (e:m δ h=.ok (.ref n) h1) (hn:h1[n]?=some (.lst (ys.map emb))) (hz:ys.length<=16777216)
  (step:∀ y∈ys,∃ δ1,tg (emb y) (bT js δ)=some δ1/\∀ h,Ext h1 h->match f y with
   | none=>tst δ1 h=.ok false h
   | some p=>tst δ1 h=.ok true h/\elt δ1 h=.ok p h):aY js (aX m) tg tst elt δ h=.ok (.ref h1.length) (h1++[.lst (ys.filterMap f)]):=
 sD f (cZ e hn) (cK hn) hz step
theorem Aq {α:Type} {m:Me} {ys:List α} {emb:α->PV} (f:α->Option PV) (e:m δ h=.ok (.tup (ys.map emb)) h1) (hz:ys.length<=16777216)
  (step:∀ y∈ys,∃ δ1,tg (emb y) (bT js δ)=some δ1/\∀ h,Ext h1 h->match f y with
   | none=>tst δ1 h=.ok false h
   | some p=>tst δ1 h=.ok true h/\elt δ1 h=.ok p h):aY js (aX m) tg tst elt δ h=.ok (.ref h1.length) (h1++[.lst (ys.filterMap f)]):=
 sD f (M9 e) (fun _ _=>rfl) hz step
theorem Dw (lo:Int):∀ n,upTo lo n=(ba n).map (fun (i:Nat)=>PV.int (lo+(i:Int)))
 | 0=>rfl
 | n+1=>by
  rw [upTo,Dw (lo+1) n,List.range_succ_eq_map,ay,cj]
  congr 1
  ·simp
  ·apply d0;intro a _;simp only [Function.comp_def]
   congr 1
   omega
theorem Dx {ms:Ma} {j:Int} (f:Nat->Option PV) (e:ms δ h=.ok [.int j] h1) (hj:-4611686018427387904<=j/\j < 16777216)
  (step:∀ i:Nat,(i:Int) < j->∃ δ1,tg (.int i) (bT js δ)=some δ1/\∀ h,Ext h1 h->match f i with
   | none=>tst δ1 h=.ok false h
   | some p=>tst δ1 h=.ok true h/\elt δ1 h=.ok p h):aY js (kX ms) tg tst elt δ h=.ok (.ref h1.length) (h1++[.lst ((ba j.toNat).filterMap f)]):=by
 refine sD (emb:=fun i:Nat=>.int ((0:Int)+i)) (g:=fun _=>true) f ?_ (fun _ _=>rfl) (by simp; omega) (fun i hi=>?_)
 ·unfold kX;rw [e];have hj':-(2 ^ 62)<=j/\j < 2 ^ 62:=⟨hj.1,by omega⟩;simp only [Rs.bind_ok,HU,if_pos hj'];rw [Dw]
 ·have hi':=ia.mp hi;rw [Int.zero_add];exact step i (by omega)
theorem filterMap_some {α β:Type} (f:α->β) (xs:List α):xs.filterMap (fun x=>some (f x))=xs.map f:=by
 induction xs with
 | nil=>rfl
 | cons x xs ih=>simp [ih]
end
end L2
namespace L2
open PySem PySem.Spec PyProof.Rows
section
variable {X:Cx} {pins:List (Addr×Obj)} {σ:St} {H:Hp} {s:Shared} {C:MC} {φ:List Addr}
mutual
theorem Mb (I:Inv X pins σ H s) (hK:X.K=C.K):∀ (n:Nat) {p:PV} {v:V} {u:Value},p.ky n=true->RV C φ H p v->RelV v u->HR s.heap p u
 | _,.int i,v,u,_,r,ru=>by cases r; exact ru
 | _,.str i,v,u,_,r,ru=>by cases r; exact ru
 | n+1,.tup ps,v,u,hk,r,ru=>by
  obtain ⟨a,vs,rfl,q,rs⟩:=r;cases ru
  rw [<- hK] at q;obtain ⟨its,rv,p,_⟩:=I.tuple q;exact ⟨a,its,rfl,p,Ia I hK n (cw.mp hk) rs rv⟩
 | 0,.tup _,_,_,hk,_,_=>by cases hk
 | n,.non,_,_,hk,_,_=>by cases n <;> cases hk
 | n,.bl _,_,_,hk,_,_=>by cases n <;> cases hk
 | n,.ref _,_,_,hk,_,_=>by cases n <;> cases hk
 | n,.ty _,_,_,hk,_,_=>by cases n <;> cases hk
 | n,.fl _,_,_,hk,_,_=>by cases n <;> cases hk
theorem Ia (I:Inv X pins σ H s) (hK:X.K=C.K):∀ (n:Nat) {ps:List PV} {vs:List V} {us:List Value},(∀ p∈ps,p.ky n=true)->RVs C φ H ps vs->aM vs us->HRs s.heap ps us
 | _,[],[],us,_,_,ru=>by cases ru; trivial
 | n,p :: ps,v :: vs,us,hk,r,ru=>by
  cases ru with
  | cons h t=>exact ⟨Mb I hK n (hk p aj) r.1 h,Ia I hK n (fun q hq=>hk q (ao _ hq)) r.2 t⟩
 | _,[],_ :: _,_,_,r,_=>r.elim
 | _,_ :: _,[],_,_,r,_=>r.elim
end
abbrev wN:List (PV×Addr×V)->List (PV×Addr×Value)->Prop:=Paired fun p q=>p.1=q.1/\p.2.1=q.2.1/\RelV p.2.2 q.2.2
def HD (C:MC) (φ:List Addr) (H:Hp) (X:Cx) (s:Shared) (a:Addr) (kvs:List (PV×PV)):Prop:=
 ∃ ks xs,RKd C φ H kvs ks/\wN ks xs/\xs.length<=aw/\(a == fh)=false/\s.heap.DictOfH (kQ X.prog X.w) a xs
def cM (h:PH) (n:Nat):Option (List (PV×PV)):=match h[n]? with
 | some (.dD kvs)=>some kvs
 | some (.dK [])=>some []
 | _=>none
def PV.isKt:PV->Bool
 | .tup xs=>(PV.tup xs).ky 6
 | _=>false
theorem pW {p:PV} (h:p.isKt=true):p.ky 6=true:=by cases p <;> first | exact h | cases h
theorem jR {p:PV} {v:V} (h:p.isKt=true) (r:RV C φ H p v):∃ b,v=.ref b:=by
 cases p <;> first | (obtain ⟨b,_,e,_⟩:=r; exact ⟨b,e⟩) | cases h
theorem tX {h:PH} {n:Nat} {a:Addr} {kvs:List (PV×PV)} (I:Inv X pins σ H s) (hK:X.K=C.K) (hw:X.w=C.w) (rh:RH C φ H h) (ha:φ[n]?=some a) (e:cM h n=some kvs):HD C φ H X s a kvs/\Mut (H a)/\Df (H a):=by
 unfold cM at e;split at e
 ·rename_i kv hk;cases e
  obtain ⟨ks,hH,r⟩:=rh.at' n a _ ha hk;have hO:cP X.prog X.w H s.heap a (dDO C.w a ks):=I.hok a _ hH;obtain ⟨⟨hz,hm,xs,rx,o,es,ep,h1,h2,h3,h4,h5⟩,_⟩:=hO;refine ⟨⟨ks,xs,r,rx,by rw [<- ee rx]; exact hz,hm,o,es,ep,h1,h2,h3,?_,?_,h5⟩,by rw [hH]; exact ki,by rw [hH]; exact ki⟩
  ·rw [h4,<- hw]; rfl
  ·have all:∀ {l:List (PV×PV)} {m:List (PV×Addr×V)} {z:List (PV×Addr×Value)},RKd C φ H l m->wN m z->∀ x∈z,(kQ X.prog X.w).is s.heap x.1 x.2.1:=by
    intro l m z q;unfold RKd at q
    induction q generalizing z with
    | nil=>intro rz x hx; cases rz; cases hx
    | cons hq t ih=>
     intro rz x hx;cases rz with
     | cons hz' tz=>
      rcases bc.mp hx with e | hx
      ·subst e;refine ⟨?_,?_⟩
       ·rw [<- hz'.1,<- hq.1]; exact hq.2.1
       ·rw [<- hz'.1,<- hq.1,<- hz'.2.1]; exact Mb I hK 6 hq.2.1 hq.2.2.1 rfl
      ·exact ih tz x hx
   exact all r rx
 ·rename_i hk;cases e
  obtain ⟨ks,hH,r⟩:=rh.at' n a _ ha hk;have:ks=[]:=by cases r; rfl
  subst this;obtain ⟨z,hd,vs,rel,o,es,ep,h1,h2,h3,h4,h5,h6⟩:=D8 I.hok hH;have:vs=[]:=by cases rel; rfl
  subst this;refine ⟨⟨[],[],.nil,.nil,b9 _,hd,o,es,ep,h1,h2,h3,?_,(fun x hx=>nomatch hx),List.nodup_nil⟩,by rw [hH]; exact ki,by rw [hH]; exact ki⟩;cases he:es.toList with
  | nil=>rfl
  | cons y ys=>rw [he] at h5; cases h5
 ·cases e
theorem HD.val {a:Addr} {kvs:List (PV×PV)} {ks:List (PV×Addr×V)} {xs:List (PV×Addr×Value)} (r:RKd C φ H kvs ks) (rx:wN ks xs) (k:PV):match aW kvs k,(atKey xs k).map (·.2) with
  | some p,some u=>∃ v,RelV v u/\RV C φ H p v
  | none,none=>True
  | _,_=>False:=by
 unfold RKd at r
 induction r generalizing xs with
 | nil=>cases rx; trivial
 | @cons p q ps qs h t ih=>
  cases rx with
  | @cons q' x qs' xs' hx tx=>
   obtain ⟨pk,pv⟩:=p
   by_cases e:pk=k
   ·have e':x.1=k:=hx.1.symm.trans (h.1.symm.trans e);have b:atKey (x :: xs') k=some x.2:=by simp [atKey,i5,e']
    rw [b];unfold aW;rw [if_pos e];exact ⟨_,hx.2.2,h.2.2.2⟩
   ·have e':¬ x.1=k:=fun z=>e (h.1.trans (hx.1.trans z));have b:atKey (x :: xs') k=atKey xs' k:=by simp [atKey,i5,e']
    rw [b];unfold aW;rw [if_neg e];exact ih tx
def dM {κ:Type} [DecidableEq κ] (kvs:List (κ×PV)) (k:κ) (p:PV):List (κ×PV):=if (aW kvs k).isSome then kvs.map (fun kv=>if kv.1=k then (kv.1,p) else kv) else kvs++[(k,p)]
theorem HD.replace {a:Addr} {kvs:List (PV×PV)} {ks:List (PV×Addr×V)} {xs:List (PV×Addr×Value)} (r:RKd C φ H kvs ks) (rx:wN ks xs) (k:PV) {p:PV} {v:V} {u:Value} (rp:RV C φ H p v) (ru:RelV v u):
  ∃ ks',RKd C φ H (kvs.map fun kv=>if kv.1=k then (kv.1,p) else kv) ks'/\wN ks' (xs.map (putAt k u)):=by
 unfold RKd at r
 induction r generalizing xs with
 | nil=>cases rx; exact ⟨[],.nil,.nil⟩
 | @cons pp q ps qs h t ih=>
  cases rx with
  | @cons q' x qs' xs' hx tx=>
   obtain ⟨ks',r1,r2⟩:=ih tx
   by_cases e:pp.1=k
   ·refine ⟨(q.1,q.2.1,v) :: ks',.cons ?_ r1,.cons ?_ r2⟩
    ·simp only [if_pos e]; exact ⟨h.1,h.2.1,h.2.2.1,rp⟩
    ·unfold putAt; rw [if_pos (hx.1.symm.trans (h.1.symm.trans e))]; exact ⟨hx.1,hx.2.1,ru⟩
   ·refine ⟨q :: ks',.cons ?_ r1,.cons ?_ r2⟩
    ·simp only [if_neg e]; exact h
    ·unfold putAt; rw [if_neg fun z=>e (h.1.trans (hx.1.trans z))]; exact hx
theorem HD.put {a b:Addr} {kvs:List (PV×PV)} {ks:List (PV×Addr×V)} {xs:List (PV×Addr×Value)} (r:RKd C φ H kvs ks) (rx:wN ks xs) {k:PV} (hk:k.ky 6=true) (rk:RV C φ H k (.ref b)) {p:PV} {v:V} {u:Value} (rp:RV C φ H p v) (ru:RelV v u):
  ∃ ks',RKd C φ H (dM kvs k p) ks'/\wN ks' (storedH xs k b u):=by
 have hv:=HD.val (a:=b) r rx k;unfold dM storedH;cases e1:aW kvs k with
 | some p0=>
  rw [e1] at hv;cases e2:atKey xs k with
  | none=>rw [e2] at hv; exact hv.elim
  | some z=>exact HD.replace (a:=b) r rx k rp ru
 | none=>
  rw [e1] at hv;cases e2:atKey xs k with
  | some z=>rw [e2] at hv; exact hv.elim
  | none=>exact ⟨ks++[(k,b,v)],Paired.snoc r ⟨rfl,hk,rk,rp⟩,Paired.snoc rx ⟨rfl,rfl,ru⟩⟩
theorem HD.isSome {kvs:List (PV×PV)} {ks:List (PV×Addr×V)} {xs:List (PV×Addr×Value)} (r:RKd C φ H kvs ks) (rx:wN ks xs) (k:PV):(atKey xs k).isSome=(aW kvs k).isSome:=by
 have hv:=HD.val (a:=0) r rx k;cases e1:aW kvs k with
 | some p0=>
  rw [e1] at hv;cases e2:atKey xs k with
  | none=>rw [e2] at hv; exact hv.elim
  | some z=>rfl
 | none=>
  rw [e1] at hv;cases e2:atKey xs k with
  | some z=>rw [e2] at hv; exact hv.elim
  | none=>rfl
theorem tY (I:Inv X pins σ H s) (hK:X.K=C.K) {p:PV} {b:Addr} (hk:p.isKt=true) (r:RV C φ H p (.ref b)):(kQ X.prog X.w).is s.heap p b:=⟨pW hk,Mb I hK 6 (pW hk) r rfl⟩
end
section
variable {C:MC} {k:Nat} {X:Cx}
theorem Cxt.room6 (c:Cxt C k X):(kQ X.prog X.w).room X.A.in1:=by
 have:=c.hu64
 show X.A.units+1+6 < cLine
 omega
def iF (x y:PV) (h:PH):Option (Option PV):=match y with
 | .ref n=>if x.isKt=true then (cM h n).map fun kvs=>aW kvs x else none
 | _=>none
def Ib (C:MC):V->V->Hp->(List Addr->Option PV->Prop)->Prop:=fun x y H R=>∃ φ h p n a kvs,RH C φ H h/\RV C φ H p x/\y=.ref a/\φ[n]?=some a/\cM h n=some kvs/\p.isKt=true/\R φ (aW kvs p)
theorem oD {φ:List Addr} {H:Hp} {h:PH} {p q:PV} {x y:V} {o:Option PV} {R:List Addr->Option PV->Prop} (rh:RH C φ H h) (rx:RV C φ H p x) (ry:RV C φ H q y) (e:iF p q h=some o) (r:R φ o):Ib C x y H R:=by
 unfold iF at e;cases q with
 | ref n=>
  obtain ⟨a,rfl,ha⟩:=ry;dsimp only at e;split at e
  ·rename_i hk;cases e1:cM h n with
   | none=>rw [e1] at e; cases e
   | some kvs=>rw [e1] at e; cases e; exact ⟨φ,h,p,n,a,kvs,rh,rx,rfl,ha,e1,hk,r⟩
  ·cases e
 | _=>cases e
theorem PK (c:Cxt C k X):OpR X (cu .In) (fun x y H Q=>Ib C x y H fun _ o=>Q (.bl o.isSome) H):=fun pins s σ H x y v u Q I rx ry h=>by
 obtain ⟨φ,h,p,n,a,kvs,rh,rp,rfl,ha,ht,hk,q⟩:=h;cases ry
 obtain ⟨b,rfl⟩:=jR hk rp;cases rx
 obtain ⟨⟨ks,xs,r,rx',hz,hm,dd⟩,_⟩:=tX I c.K c.w rh ha ht;refine wpAny_in_heap c.room6 (tY I c.K hk rp) hm dd ?_;rw [HD.isSome r rx' p];exact ⟨.bl _,H,I.tok _,rfl,q⟩
theorem FU (c:Cxt C k X):OpR X (cu .NotIn) (fun x y H Q=>Ib C x y H fun _ o=>Q (.bl (!o.isSome)) H):=fun pins s σ H x y v u Q I rx ry h=>by
 obtain ⟨φ,h,p,n,a,kvs,rh,rp,rfl,ha,ht,hk,q⟩:=h;cases ry
 obtain ⟨b,rfl⟩:=jR hk rp;cases rx
 obtain ⟨⟨ks,xs,r,rx',hz,hm,dd⟩,_⟩:=tX I c.K c.w rh ha ht;refine wpAny_notIn_heap c.room6 (tY I c.K hk rp) hm dd ?_;rw [HD.isSome r rx' p];exact ⟨.bl _,H,I.tok _,rfl,q⟩
def zK:PV->PV->PH->Rs PV:=fun x y h=>match iF x y h with
 | some o=>.ok (.bl o.isSome) h
 | none=>vIn x y h
def cT:PV->PV->PH->Rs PV:=fun x y h=>match iF x y h with
 | some o=>.ok (.bl (!o.isSome)) h
 | none=>wB x y h
theorem S8:OpS C k X (cu .In) zK:=fun c=>((Xx c).or (PK c)).imp fun x y H Q h=>by
 obtain ⟨φ,h,p,q,rh,rx,ry,po⟩:=h;unfold zK at po;cases e:iF p q h with
 | none=>rw [e] at po; exact .inl ⟨φ,h,p,q,rh,rx,ry,po⟩
 | some o=>rw [e] at po; exact .inr (oD rh rx ry e (po.val rh rfl))
theorem wO:OpS C k X (cu .NotIn) cT:=fun c=>((Pn c).or (FU c)).imp fun x y H Q h=>by
 obtain ⟨φ,h,p,q,rh,rx,ry,po⟩:=h;unfold cT at po;cases e:iF p q h with
 | none=>rw [e] at po; exact .inl ⟨φ,h,p,q,rh,rx,ry,po⟩
 | some o=>rw [e] at po; exact .inr (oD rh rx ry e (po.val rh rfl))
theorem XS (c:Cxt C k X):IxR X (fun x y H Q=>Ib C y x H fun φ o=>∃ p,o=some p/\∀ v:V,RV C φ H p v->Q v H):=by
 intro value slice pins s σ H x y v u Q I rx ry h hs;obtain ⟨φ,h,p,n,a,kvs,rh,rp,rfl,ha,ht,hk,p',ep,q⟩:=h;cases rx
 obtain ⟨b,rfl⟩:=jR hk rp;cases ry
 obtain ⟨⟨ks,xs,r,rx',hz,hm,dd⟩,_⟩:=tX I c.K c.w rh ha ht;have hT:=dd.typeIs;have hv:=HD.val (a:=a) r rx' p;rw [ep] at hv;cases e2:atKey xs p with
 | none=>rw [e2] at hv; exact hv.elim
 | some z=>
  rw [e2] at hv;obtain ⟨v',rv1,rv2⟩:=hv;unfold subscriptTail;refine aa ?_;rw [getitemInPython_of_ne hT.not_modules];refine aa (wpAny_specialOf hT PySem.F.slot_dict_getitem.lookup ?_);have fin:wpAny (model X.prog X.w) X.A (subscripted slice false (.ref a) (.ref b)) (fun r s₃=>wpAny (model X.prog X.w) X.A (letTemporaryGo value (.ref a) r >>= fun _=>pure r) (EP X pins σ Q) X.xe s₃) X.xe s:=by
   rw [hs];exact wpAny_operating (wpAny_getItem_heap c.room6 (tY I c.K hk rp) dd e2 (aa (wpAny_letTemporaryGo (ag ⟨v',H,I.tok _,rv1,q v' rv2⟩))))
  first
   | exact ag (aa fin)
   | exact aa (ag (aa fin))
   | exact aa fin
def vAt:PV->PV->PH->Rs PV:=fun x y h=>match iF y x h with
 | some (some p)=>.ok p h
 | some none=>.bad
 | none=>vIx x y h
theorem bB {a b:Expr} {ma mb:Me} {pos:Pos} (ha:SE C k X a ma) (hb:SE C k X b mb) (hs:HB b:=by intro _ _; rfl):SE C k X (.Subscript a b pos) (aD vAt ma mb):=fun c=>
 (Vg ((ixC c.hu C.K c.K).or (XS c)) (ha c) (hb c) hs).imp fun σ H Q h=>by
  obtain ⟨φ,δ,h,rh,re,p⟩:=HI h;refine ⟨φ,δ,h,rh,re,p.imp ?_⟩;rintro v H1 ⟨φ,δ,h,rh,re,p⟩;refine ⟨φ,δ,h,rh,re,p.imp ?_⟩;rintro u H2 ⟨φ,h,p,q,rh,rx,ry,po⟩;unfold vAt at po;cases e:iF q p h with
  | none=>rw [e] at po; exact .inl (VE ⟨φ,h,p,q,rh,rx,ry,po⟩)
  | some o=>
   rw [e] at po;cases o with
   | none=>exact po.elim
   | some r=>exact .inr (oD rh ry rx e ⟨r,rfl,fun v' rv=>po.val rh rv⟩)
def uQ (x y v:PV) (h:PH):Option PH:=match x with
 | .ref n=>match pQ y,h[n]? with
  | some key,some (.dK kvs)=>if kvs.length < aw then some (h.set n (.dK (dM kvs key v))) else none
  | some _,_=>none
  | none,_=>if y.isKt=true then (match cM h n with
   | some kvs=>if kvs.length < aw then some (h.set n (.dD (dM kvs y v))) else none
   | none=>none) else none
 | _=>none
theorem FV {φ:List Addr} {H:Hp} {κ:Type} [DecidableEq κ] {kvs:List (κ×PV)} {ks:List (κ×V)} (r:RKv C φ H kvs ks) (a:κ):(aW kvs a).isSome=(iP ks a).isSome:=by
 have:=rY r a;cases e1:aW kvs a with
 | none=>
  cases e2:iP ks a with
  | none=>rfl
  | some v=>rw [e1,e2] at this; exact this.elim
 | some p=>
  cases e2:iP ks a with
  | none=>rw [e1,e2] at this; exact this.elim
  | some v=>rfl
theorem wQ {φ:List Addr} {H:Hp} {κ:Type} [DecidableEq κ] {kvs:List (κ×PV)} {ks:List (κ×V)} (r:RKv C φ H kvs ks) (a:κ) {p:PV} {v:V} (rp:RV C φ H p v):RKv C φ H (dM kvs a p) (putK ks a v):=by
 unfold dM putK;rw [vN,FV r a];split
 ·rename_i hx;clear hx;unfold RKv at r ⊢
  induction r with
  | nil=>exact .nil
  | @cons p' q' ps qs h t ih=>
   refine .cons ?_ ih
   by_cases e:p'.1=a
   ·have e':q'.1=a:=h.1.symm.trans e;simp only [if_pos e,if_pos e'];exact ⟨h.1,rp⟩
   ·have e':¬ q'.1=a:=fun z=>e (h.1.trans z);simp only [if_neg e,if_neg e'];exact h
 ·exact Paired.snoc r ⟨rfl,rp⟩
theorem Ar {φ:List Addr} {H:Hp} {h h':PH} {px py pv:PV} {x y v:V} (c:Cxt C k X) (rh:RH C φ H h) (rx:RV C φ H px x) (ry:RV C φ H py y) (rv:RV C φ H pv v) (e:uQ px py pv h=some h') {pins:List (Addr×Obj)} {σ:St} {s:Shared} {xu yu vu:Value}
  {Q:Unit->Shared->Prop} (I:Inv X pins σ H s) (rxu:RelV x xu) (ryu:RelV y yu) (rvu:RelV v vu) (q:∀ s' H',Inv X pins σ H' s'->Kp H H'->RH C φ H' h'->Q () s'):wpAny (model X.prog X.w) X.A (setItem xu yu vu) Q X.xe s:=by
 unfold uQ at e;cases px with
 | ref n=>
  obtain ⟨a,rfl,ha⟩:=rx;cases rxu
  dsimp only at e;split at e
  ·rename_i key kvs hkey hk;split at e
   ·rename_i hl;cases e
    obtain ⟨ks,hH,rk⟩:=rh.at' n a _ ha hk;have ey:y=kV key:=wC ry hkey;subst ey;have hl':ks.length < aw:=by rw [<- ee rk]; exact hl
    refine J4 c.hu I (.k hH hl') ryu rvu fun s' I'=>q s' _ I' (Kp.dK hH) ?_;refine rh.write ha (by rw [hH]; exact ki) ⟨_,bH,?_⟩;exact (wQ rk key rv).mono ax (Kp.dK hH)
   ·cases e
  ·cases e
  ·split at e
   ·rename_i hk;split at e
    ·rename_i kvs ht;split at e
     ·rename_i hl;cases e
      obtain ⟨b,rfl⟩:=jR hk ry;cases ryu
      obtain ⟨⟨ks,xs,r,rx',hz,hm,dd⟩,mu,nt⟩:=tX I c.K c.w rh ha ht;refine wpAny_setItem_heap (hsz:=hz) c.room6 (tY I c.K hk ry) dd fun h' dd' hs=>?_;obtain ⟨ks',r1,r2⟩:=HD.put (a:=a) r rx' (pW hk) ry rv rvu;obtain ⟨o,es,ep,hq,h2,h3,h4,_,h5⟩:=dd';have hl2:ks'.length<=aw:=by
       have e1:=ee r1;have e2:(dM kvs py pv).length<=kvs.length+1:=by
        unfold dM;split
        ·rw [ae]; omega
        ·simp
       omega
      refine q _ (upd H a (dDO C.w a ks')) (pF I mu hs ⟨o,hq⟩ ⟨⟨hl2,hm,_,r2,o,es,ep,hq,h2,h3,?_,h5⟩,⟨o,hq⟩,?_⟩) (Kp.upd nt) ?_
      ·rw [h4,<- c.w]; rfl
      ·rintro g1 g2 ⟨z1,z2,ws,z3,o',es',ep',z4,z5⟩ keep;exact ⟨z1,z2,ws,z3,o',es',ep',keep _ z4,z5⟩
      ·exact rh.write ha nt ⟨ks',bH,RKd.mono ax (Kp.upd nt) r1⟩
     ·cases e
    ·cases e
   ·cases e
 | _=>cases e
end
end L2
namespace L2
open PySem PySem.Spec PyProof.Rows
def MtG (C:MC) (k:Nat) (X:Cx) (T:String) (ty:PV->PH->Bool) (id:String) (g:PV->List PV->PH->Rs PV):Prop:=Cxt C k X->MtR X id (rM C g)/\
 ∀ pins s σ H φ h p x v,Inv X pins σ H s->RH C φ H h->RV C φ H p x->RelV x v->ty p h=true->s.TypeIs v T/\∀ a,v=.ref a->∃ ob,s.heap.get? a=some ob/\ob.dict=none
section
variable {C:MC} {k:Nat} {X:Cx}
section
variable {o e:Expr} {es:List Expr} {mo:Me} {ms:Ma} {name:Str} {apos cpos:Pos} {T id:String} {ty:PV->PH->Bool} {g:PV->List PV->PH->Rs PV}
theorem TL (pa:PlainAttrs T) (slot:Slot T name id) (hty:typeOf (.builtin id)=pure (.type "method_descriptor")) (hm:MtG C k X T ty id g) (ho:SE C k X o mo) (ha:SA C k X (e :: es) ms)
  (hbase:attributeBase o name X.env (eval o X.env)=eval o X.env:=by rfl)
  (hfew:((backTo cpos (cf (e :: es) X.env)).all (fun x=>!x.1) && (backToKw cpos (keywordEach [] X.env)).all (fun x=>x.1.isSome)
   && decide ((e :: es).length+([]:List Keyword).length+(if ([]:List Keyword).isEmpty then 0 else 1) < 30))=true:=by rfl)
  (hline:(apos.endLine == cpos.line)=true:=by rfl) (hs:cf (e :: es) X.env=(false,eval e X.env) :: cf es X.env:=by rfl) (hplain:(backTo cpos (cf es X.env)).any (·.1)=false:=by rfl):
  SE C k X (.Call (.Attribute o name apos) (e :: es) [] cpos) (mMt ty g mo ms):=fun c pins s σ H Q I ⟨φ,δ,h,rh,re,p⟩=>by
 refine wpAny_Call_method_late hbase hfew hline rfl (thn (ho c pins s σ H _ I ⟨φ,δ,h,rh,re,post.bind p⟩) ?_);rintro v s1 ⟨x,H1,I1,r1,φ1,px,h1,p1,t1,rh1,rv1,q1⟩;obtain ⟨ht,q1⟩:=q1.ite;obtain ⟨g1,g2⟩:=(hm c).2 pins s1 σ H1 φ1 h1 px x v I1 rh1 rv1 r1 ht;refine ⟨T,id,pa,slot,hty,g1,g2,?_⟩;have hA:=ha c cpos pins s1 σ H1 _ I1 ⟨φ1,δ,h1,rh1,re.mono p1 t1,postA.bind q1⟩;rw [hs] at hA ⊢;refine Calls.callWith_builtin (show (false || (backTo cpos (cf es X.env)).any (·.1))=false by rw [hplain]; rfl) (Calls.evalArgs_plain (thn hA ?_));rintro us s2 ⟨vs,H2,I2,r2,φ2,ps,h2,p2,t2,rh2,rv2,q2⟩;exact (hm c).1 pins s2 σ H2 x vs v us Q I2 r1 r2 ⟨φ2,h2,px,ps,rh2,rv1.mono p2 t2,rv2,q2⟩
theorem S9 (pa:PlainAttrs T) (slot:Slot T name id) (hty:typeOf (.builtin id)=pure (.type "method_descriptor")) (hm:MtG C k X T ty id g) (ho:SE C k X o mo)
  (hbase:attributeBase o name X.env (eval o X.env)=eval o X.env:=by rfl) (hline:(apos.endLine == cpos.line)=true:=by rfl):SE C k X (.Call (.Attribute o name apos) [] [] cpos) (Pv ty g mo):=fun c pins s σ H Q I ⟨φ,δ,h,rh,re,p⟩=>by
 refine wpAny_Call_method0_late hbase hline (thn (ho c pins s σ H _ I ⟨φ,δ,h,rh,re,post.bind p⟩) ?_);rintro v s1 ⟨x,H1,I1,r1,φ1,px,h1,p1,t1,rh1,rv1,q1⟩;obtain ⟨ht,q1⟩:=q1.ite;obtain ⟨g1,g2⟩:=(hm c).2 pins s1 σ H1 φ1 h1 px x v I1 rh1 rv1 r1 ht;exact ⟨T,id,pa,slot,hty,g1,g2,Calls.callWith_builtin rfl (PySem.evalArgs_none ((hm c).1 pins s1 σ H1 x [] v [] Q I1 r1 .nil ⟨φ1,h1,px,[],rh1,rv1,trivial,q1⟩))⟩
end
def eD (x:PV) (h:PH):Bool:=match x with
 | .ref n=>match h[n]? with
  | some (.dK _)=>true
  | some (.dD _)=>true
  | _=>false
 | _=>false
theorem pX (c:Cxt C k X):∀ pins s σ H φ h p x v,Inv X pins σ H s->RH C φ H h->RV C φ H p x->RelV x v->eD p h=true->s.TypeIs v "dict" /\ ∀ a,v=.ref a->∃ ob,s.heap.get? a=some ob/\ob.dict=none:=by
 intro pins s σ H φ h p x v I rh rv r e;unfold eD at e;cases p with
 | ref n=>
  obtain ⟨a,rfl,ha⟩:=rv;cases r
  dsimp only at e;split at e
  ·rename_i kvs hk;obtain ⟨ks,hH,rk⟩:=rh.at' n a _ ha hk;obtain ⟨z,hd,vs,rel,dd⟩:=D8 I.hok hH;refine ⟨dd.typeIs,fun b eb=>?_⟩;cases eb
   obtain ⟨ob,_,_,h1,h2,_⟩:=dd;exact ⟨ob,h1,h2.2.1⟩
  ·rename_i kvs hk;have ht:cM h n=some kvs:=by unfold cM; rw [hk]
   obtain ⟨⟨ks,xs,r,rx',hz,hm,dd⟩,_⟩:=tX I c.K c.w rh ha ht;refine ⟨dd.typeIs,fun b eb=>?_⟩;cases eb
   obtain ⟨ob,_,_,h1,h2,_⟩:=dd;exact ⟨ob,h1,h2.2.1⟩
  ·cases e
 | _=>cases e
def dG (h:PH) (x y:PV):Option (Option PV):=match iF y x h with
 | some o=>some o
 | none=>match x with
  | .ref n=>Do h n y
  | _=>none
def FW:PV->List PV->PH->Rs PV:=fun x ps h=>match ps with
 | [y]=>match dG h x y with
  | some o=>.ok (o.getD .non) h
  | none=>.bad
 | [y,z]=>match dG h x y with
  | some o=>.ok (o.getD z) h
  | none=>.bad
 | _=>.bad
theorem Mc {x y:PV} {h:PH} {o:Option PV} (e:iF x y h=some o):∃ n kvs,y=.ref n/\x.isKt=true/\cM h n=some kvs/\o=aW kvs x:=by
 unfold iF at e;cases y with
 | ref n=>
  dsimp only at e;split at e
  ·rename_i hk;cases e1:cM h n with
   | none=>rw [e1] at e; cases e
   | some kvs=>rw [e1] at e; cases e; exact ⟨n,kvs,rfl,hk,e1,rfl⟩
  ·cases e
 | _=>cases e
theorem TM (c:Cxt C k X):MtR X "dict.get" (rM C FW):=fun pins s σ H x xs v us Q I rx rs h=>by
 obtain ⟨φ,h,p,ps,rh,rp,rps,po⟩:=h
 -- what is found
 have key:∀ {y:PV} {yv:V} {yu:Value} {o:Option PV} {d:PV} {dv:V} {du:Value} {more:List Value},dG h p y=some o->RV C φ H y yv->RelV yv yu->RV C φ H d dv->RelV dv du->
   ((more=[]/\du=.none/\dv=.non)\/more=[du])->(∀ z,RV C φ H (o.getD d) z->Q z H)->wpAny (model X.prog X.w) X.A (call (.builtin "dict.get") (v :: yu :: more)) (EP X pins σ Q) X.xe s:=by
  intro y yv yu o d dv du more e ry ryu rd rdu hm q;unfold dG at e;cases e1:iF y p h with
  | some o'=>
   rw [e1] at e;cases e
   obtain ⟨n,kvs,rfl,hk,ht,rfl⟩:=Mc e1;obtain ⟨a,rfl,ha⟩:=rp;cases rx
   obtain ⟨b,rfl⟩:=jR hk ry;cases ryu
   obtain ⟨⟨ks,xs,r,rx',hz,hm',dd⟩,_⟩:=tX I c.K c.w rh ha ht;have hv:=HD.val (a:=a) r rx' y;have fin:EP X pins σ Q (((atKey xs y).map (·.2)).getD du) { s with toks:=s.toks+(kQ X.prog X.w).draws y }:=by
    cases e2:aW kvs y with
    | some p2=>
     rw [e2] at hv q;cases e3:atKey xs y with
     | none=>rw [e3] at hv; exact hv.elim
     | some z=>
      rw [e3] at hv;obtain ⟨v',rv1,rv2⟩:=hv;exact ⟨v',H,I.tok _,rv1,q v' rv2⟩
    | none=>
     rw [e2] at hv q;cases e3:atKey xs y with
     | some z=>rw [e3] at hv; exact hv.elim
     | none=>exact ⟨dv,H,I.tok _,rdu,q dv rd⟩
   rcases hm with ⟨rfl,rfl,_⟩ | rfl
   ·exact jf d8 dd.typeIs gq (PySem.F.args_dict_get_2 _ _) (meetsH_dict_get (kQ X.prog X.w) a b hm') ⟨c.room6,y,xs,tY I c.K hk ry,dd,fin⟩
   ·exact jf d8 dd.typeIs gq (PySem.F.args_dict_get_3 _ _ _) (meetsH_dict_get_default (kQ X.prog X.w) a b hm' du) ⟨c.room6,y,xs,tY I c.K hk ry,dd,fin⟩
  | none=>
   rw [e1] at e;cases p with
   | ref n=>
    obtain ⟨a,rfl,ha⟩:=rp;cases rx
    dsimp only at e;obtain ⟨o',g,is,val⟩:=oB rh ha ry e;have fin:∀ w' s',Inv X pins σ H s'->RelV (o'.getD dv) w'->EP X pins σ Q w' s':=fun w' s' I' r'=>by
     refine ⟨o'.getD dv,H,I',r',q _ ?_⟩;cases o with
     | some p2=>obtain ⟨w2,rfl,rw2⟩:=val p2 rfl; exact rw2
     | none=>
      cases o' with
      | none=>exact rd
      | some z=>cases is
    rcases hm with ⟨rfl,rfl,rfl⟩ | rfl
    ·exact T6 c.hu I g ryu fin
    ·exact T7 c.hu I g ryu rdu fin
   | _=>cases e
 unfold FW at po;split at po
 ·rename_i y;split at po
  ·rename_i o e;obtain ⟨yv,rfl,ry⟩:=rps.one;obtain ⟨yu,rfl,ryu⟩:=vals1 rs;exact key (d:=.non) (dv:=.non) (du:=.none) e ry ryu rfl rfl (.inl ⟨rfl,rfl,rfl⟩) fun z rz=>po.val rh rz
  ·exact po.elim
 ·rename_i y z;split at po
  ·rename_i o e;obtain ⟨yv,zv,rfl,ry,rz⟩:=rps.two;obtain ⟨yu,zu,rfl,ryu,rzu⟩:=vals2 rs;exact key e ry ryu rz rzu (.inr rfl) fun z rz=>po.val rh rz
  ·exact po.elim
 ·exact po.elim
theorem Sa:MtG C k X "dict" eD "dict.get" FW:=fun c=>⟨TM c,pX c⟩
def lG:List PV->Option (List (Key×PV))
 | []=>some []
 | .tup [y,v] :: r=>match pQ y,lG r with
  | some key,some rs=>some ((key,v) :: rs)
  | _,_=>none
 | _ :: _=>none
def sE (kvs more:List (Key×PV)):List (Key×PV):=more.foldl (fun acc kv=>dM acc kv.1 kv.2) kvs
theorem FX {φ:List Addr} {H:Hp}:∀ {more:List (Key×PV)} {ms:List (Key×V)} {kvs:List (Key×PV)} {ks:List (Key×V)},RKv C φ H more ms->RKv C φ H kvs ks->RKv C φ H (sE kvs more) (rO ks ms):=by
 intro more ms kvs ks r;unfold RKv at r
 induction r generalizing kvs ks with
 | nil=>intro q; exact q
 | @cons p q ps qs h t ih=>
  intro r0;have e:=wQ r0 p.1 h.2;rw [show putK ks p.1 q.2=putK ks q.1 q.2 by rw [h.1]] at e;exact ih e
theorem Inv.tupleD {pins:List (Addr×Obj)} {σ:St} {H:Hp} {s:Shared} {a:Addr} {xs:List V} (I:Inv X pins σ H s) (h:SqT X.K H a xs):∃ its:List Value,aM xs its/\oZ s.heap a its.toArray/\xs.length<=aw:=by
 rcases h with h | ⟨o,its,n,hk,hc,hs,hz,r,hd⟩
 ·obtain ⟨z,its,r,p⟩:=h.ok I.hok;exact ⟨its,r,p,z⟩
 ·refine ⟨its.toList,r,⟨o,I.kIn a o hk,hc,⟨n,by simpa using hs⟩,hd⟩,?_⟩
  have e:=r.length;rw [e];simpa using hz
theorem As {pins:List (Addr×Obj)} {σ:St} {H:Hp} {s:Shared} {φ:List Addr} (I:Inv X pins σ H s) (hK:X.K=C.K):∀ {ps:List PV} {rs:List (Key×PV)} {vs:List V} {us:List Value},lG ps=some rs->RVs C φ H ps vs->aM vs us->
  ∃ qs:List (Addr×Key×Value×Value),us=qs.map (fun q=>dm q.1)/\(∀ q∈qs,(bL X.prog X.w).is q.2.1 q.2.2.1=true)/\(∀ q∈qs,IsTup s.heap q.1 #[q.2.2.1,q.2.2.2])/\∃ ws:List (Key×V),RKv C φ H rs ws/\KV ws (qs.map fun q=>(q.2.1,q.2.2.2))
 | [],rs,[],us,e,_,ru=>by
  cases ru
  cases e
  exact ⟨[],rfl,(fun _ h=>nomatch h),(fun _ h=>nomatch h),[],.nil,.nil⟩
 | p :: ps,rs,v :: vs,us,e,r,ru=>by
  cases ru with
  | @cons _ u _ us' h t=>
   cases p with
   | tup xs=>
    match xs,e with
    | [y,z],e=>
     unfold lG at e;cases e1:pQ y with
     | none=>rw [e1] at e; cases e
     | some key=>
      cases e2:lG ps with
      | none=>rw [e1,e2] at e; cases e
      | some rs'=>
       rw [e1,e2] at e;cases e
       obtain ⟨qs,rfl,a1,a2,ws,a3,a4⟩:=As I hK e2 r.2 t;obtain ⟨b,bs,rfl,sq,rb⟩:=r.1;cases h
       obtain ⟨yv,zv,rfl,ry,rz⟩:=rb.two;rw [<- hK] at sq;obtain ⟨its,rits,pt,_⟩:=I.tuple sq;obtain ⟨yu,zu,rfl,ryu,rzu⟩:=vals2 rits;have ey:=wC ry e1;subst ey;refine ⟨(b,key,yu,zu) :: qs,rfl,?_,?_,(key,zv) :: ws,.cons ⟨rfl,rz⟩ a3,.cons ⟨rfl,rzu⟩ a4⟩
       ·intro q hq;rcases bc.mp hq with rfl | hq
        ·exact pD ryu
        ·exact a1 q hq
       ·intro q hq;rcases bc.mp hq with rfl | hq
        ·exact pt
        ·exact a2 q hq
    | [],e=>cases e
    | [_],e=>cases e
    | _ :: _ :: _ :: _,e=>cases e
   | _=>cases e
 | [],_,_ :: _,_,_,r,_=>r.elim
 | _ :: _,_,[],_,_,r,_=>r.elim
def wR:List PV->PH->Rs PV:=fun xs h=>match xs with
 | [.tup ps]=>match lG ps with
  | some rs=>.ok (.ref h.length) (h++[.dK (sE [] rs)])
  | none=>.bad
 | [.ref n]=>match h[n]? with
  | some (.dK kvs)=>.ok (.ref h.length) (h++[.dK kvs])
  | _=>.bad
 | _=>.bad
theorem Md:hV C k X (.type "dict") wR:=fun c pins s σ H xs us Q I r h=>by
 obtain ⟨φ,h,ps,rh,rv,po⟩:=h;unfold wR at po;split at po
 ·rename_i ps;split at po
  ·rename_i rs e;obtain ⟨v,rfl,rx⟩:=rv.one;obtain ⟨a,vs,rfl,sa,ra⟩:=rx;obtain ⟨u,rfl,ru⟩:=vals1 r;cases ru
   have hl:=ra.length;have sa':=sa;rw [<- c.K] at sa';obtain ⟨its,rits,⟨o,o1,o2,⟨n,o3⟩,o4⟩,hz⟩:=Inv.tupleD I sa';obtain ⟨qs,rfl,a1,a2,ws,a3,a4⟩:=As I c.K e ra rits;have hq:qs.length<=aw:=by
    have:=rits.length;rw [ae] at this;omega
   refine uN (I.ok.hd c.calm) o1 o2 o3 o4 a1 a2 hq fun h' tk dd kk=>?_;have r1:=FX a3 (.nil:RKv C φ H [] []);have hz2:(rO [] ws).length<=aw:=by
    have h1:=nK ws [];have h2:=KV.length a4;rw [ae] at h2;simp at h1;omega
   have fr:H s.heap.objs.size=none:=I.fresh;refine ⟨.ref s.heap.objs.size,_,I.laid (a:=s.heap.objs.size) (o:=.dK (rO [] ws)) (t':=tk) kk (ai _) (Bm hz2 (beq_eq_false_iff_ne.mpr (j5 (a9 I.big))) (a4.merge .nil) dd),rfl,?_⟩;exact po (φ++[s.heap.objs.size]) (.ref _) _ (c7 _ _) (Kp.new fr) (rh.new fr ⟨_,bH,r1.mono (c7 _ _) (Kp.new fr)⟩) ⟨_,rfl,by rw [<- rh.len]; simp⟩
  ·exact po.elim
 ·rename_i n;split at po
  ·rename_i kvs hk;obtain ⟨v,rfl,rx⟩:=rv.one;obtain ⟨a,rfl,ha⟩:=rx;obtain ⟨u,rfl,ru⟩:=vals1 r;cases ru
   obtain ⟨ks,hH,rk⟩:=rh.at' n a _ ha hk;refine Ll I (.inl hH) fun p s' hp I'=>⟨.ref p,_,I',rfl,?_⟩;exact po (φ++[p]) (.ref _) _ (c7 _ _) (Kp.new hp) (rh.new hp ⟨_,bH,rk.mono (c7 _ _) (Kp.new hp)⟩) ⟨_,rfl,by rw [<- rh.len]; simp⟩
  ·exact po.elim
 ·exact po.elim
end
def Js (x:List Key):List (List Key)->List (List Key)
 | []=>[x]
 | y :: ys=>if bM y x=true then y :: Js x ys else x :: y :: ys
def cR:List (List Key)->List (List Key)
 | []=>[]
 | x :: xs=>Js x (cR xs)
theorem sF (x:List Key):∀ ys,(Js x ys).Perm (x :: ys)
 | []=>.refl _
 | y :: ys=>by
  unfold Js;split
  ·exact ((sF x ys).cons y).trans (.swap x y ys)
  ·exact .refl _
theorem fD:∀ xs,(cR xs).Perm xs
 | []=>.refl _
 | x :: xs=>(sF x _).trans ((fD xs).cons x)
theorem tZ {S:List Bool} {x:List Key} (hx:shape x=S):∀ {ys:List (List Key)},(∀ y∈ys,shape y=S)->ys.Pairwise (fun a b=>bM b a=false)->(Js x ys).Pairwise (fun a b=>bM b a=false)
 | [],_,_=>List.pairwise_singleton _ _
 | y :: ys,hs,hp=>by
  have hy:=hs y aj;have hs':=fun z hz=>hs z (ao _ hz);rw [de] at hp;unfold Js;split
  ·rename_i h;rw [de];refine ⟨fun z hz=>?_,tZ hx hs' hp.2⟩;rcases bc.mp ((sF x ys).mem_iff.mp hz) with rfl | hz
   ·exact pM h
   ·exact hp.1 z hz
  ·rename_i h;have h':bM y x=false:=by simpa using h
   rw [de];refine ⟨fun z hz=>?_,de.mpr hp⟩;rcases bc.mp hz with rfl | hz
   ·exact h'
   ·exact mI (hx.trans hy.symm) (hy.trans (hs' z hz).symm) h' (hp.1 z hz)
theorem iG {S:List Bool}:∀ {xs:List (List Key)},(∀ y∈xs,shape y=S)->(cR xs).Pairwise (fun a b=>bM b a=false)
 | [],_=>.nil
 | x :: xs,hs=>tZ (hs x aj) (fun y hy=>hs y (ao _ ((fD xs).mem_iff.mp hy))) (iG fun y hy=>hs y (ao _ hy))
theorem oE {S:List Bool} {xs ys:List (List Key)} (hs:∀ y∈xs,shape y=S) (hp:ys.Perm xs) (h:ys.Pairwise (fun a b=>bM b a=false)):ys=cR xs:=by
 refine ip (le:=fun a b=>bM b a=false) (fun a b ha hb h1 h2=>?_) h (iG hs) (hp.trans (fD xs).symm);exact kM ((hs a (hp.mem_iff.mp ha)).trans (hs b ((fD xs).mem_iff.mp hb)).symm) h2 h1
def kP:Key->PV
 | .inl i=>.int i
 | .inr x=>.str x
theorem PL {x:PV} {a:Key} (h:pQ x=some a):x=kP a:=by
 cases x <;> first | (cases h; rfl) | cases h
@[simp] theorem Ic (a:Key):pQ (kP a)=some a:=by cases a <;> rfl
def kA:List PV->Option (List Key)
 | []=>some []
 | x :: xs=>match pQ x,kA xs with
  | some a,some r=>some (a :: r)
  | _,_=>none
theorem pY:∀ {xs:List PV} {ks:List Key},kA xs=some ks->xs=ks.map kP
 | [],_,h=>by cases h; rfl
 | x :: xs,ks,h=>by
  unfold kA at h;cases e1:pQ x with
  | none=>rw [e1] at h; cases h
  | some a=>
   cases e2:kA xs with
   | none=>rw [e1,e2] at h; cases h
   | some r=>
    rw [e1,e2] at h;cases h
    rw [PL e1,pY e2];rfl
@[simp] theorem Mf:∀ ks:List Key,kA (ks.map kP)=some ks
 | []=>rfl
 | a :: ks=>by simp [kA,Mf ks]
def tP (ks:List Key):PV:=.tup (ks.map kP)
def kB:List PV->Option (List (List Key))
 | []=>some []
 | .tup xs :: r=>match kA xs,kB r with
  | some a,some b=>some (a :: b)
  | _,_=>none
 | _ :: _=>none
theorem wU:∀ {xs:List PV} {ks:List (List Key)},kB xs=some ks->xs=ks.map tP
 | [],_,h=>by cases h; rfl
 | x :: xs,ks,h=>by
  cases x with
  | tup ys=>
   unfold kB at h;cases e1:kA ys with
   | none=>rw [e1] at h; cases h
   | some a=>
    cases e2:kB xs with
    | none=>rw [e1,e2] at h; cases h
    | some r=>
     rw [e1,e2] at h;cases h
     rw [pY e1,wU e2];rfl
  | _=>cases h
@[simp] theorem pZ:∀ ks:List (List Key),kB (ks.map tP)=some ks
 | []=>rfl
 | a :: ks=>by simp [kB,tP,pZ ks]
def nI (kss:List (List Key)):Bool:=match kss with
 | []=>true
 | a :: r=>(!a.isEmpty) && r.all fun x=>shape x == shape a
theorem oF {kss:List (List Key)} (h:nI kss=true):∃ b sh,∀ ks∈kss,shape ks=b :: sh:=by
 cases kss with
 | nil=>exact ⟨true,[],fun _ h=>nomatch h⟩
 | cons a r=>
  unfold nI at h;rw [cq] at h;cases a with
  | nil=>cases h.1
  | cons z zs=>
   refine ⟨cW z,shape zs,fun ks hk=>?_⟩;rcases bc.mp hk with rfl | hk
   ·rfl
   ·have:=cw.mp h.2 ks hk;exact eq_of_beq this
section
variable {C:MC} {k:Nat} {X:Cx}
theorem W5 {φ:List Addr} {H:Hp} {a:Key} {v:V}:RV C φ H (kP a) v ↔ Rep C.K H (kD a) v:=by cases a <;> exact m7
theorem BK {φ:List Addr} {H:Hp}:∀ {ks:List Key} {vs:List V},RVs C φ H (ks.map kP) vs ↔ cI C.K H (ks.map kD) vs
 | [],[]=>m7
 | [],_ :: _=>m7
 | _ :: _,[]=>m7
 | _ :: _,_ :: _=>and_congr W5 BK
theorem W6 {φ:List Addr} {H:Hp} {ks:List Key} {v:V}:RV C φ H (tP ks) v ↔ Rep C.K H (tD ks) v:=by
 constructor
 ·rintro ⟨a,vs,e,s,r⟩; exact ⟨a,vs,e,s,BK.mp r⟩
 ·rintro ⟨a,vs,e,s,r⟩; exact ⟨a,vs,e,s,BK.mpr r⟩
theorem qA {φ:List Addr} {H:Hp}:∀ {kss:List (List Key)} {vs:List V},RVs C φ H (kss.map tP) vs ↔ cI C.K H (kss.map tD) vs
 | [],[]=>m7
 | [],_ :: _=>m7
 | _ :: _,[]=>m7
 | _ :: _,_ :: _=>and_congr W6 qA
def wV:PV->List PV->PH->Rs PV:=fun x ps h=>match x,ps with
 | .ref n,[]=>match h[n]? with
  | some (.dK _)=>.ok (.ref h.length) (h++[.vw 0 n])
  | _=>.bad
 | _,_=>.bad
theorem PM:MtG C k X "dict" eD "dict.items" wV:=fun c=>⟨MtR.imp (show MtR X "dict.items" Ly from Lz) fun x xs H Q h=>by
 obtain ⟨φ,h,p,ps,rh,rp,rps,po⟩:=h;unfold wV at po;split at po
 ·rename_i n;split at po
  ·rename_i kvs hk;obtain ⟨a,rfl,ha⟩:=rp;obtain ⟨ks,hH,rk⟩:=rh.at' n a _ ha hk;have:xs=[]:=by cases xs <;> first | rfl | exact rps.elim
   subst this;refine ⟨a,ks,rfl,rfl,hH,fun l hl=>?_⟩;refine po (φ++[l]) (.ref l) _ (c7 _ _) (Kp.new hl) (rh.new hl ⟨a,gZ (c7 _ _) ha,bH⟩) ⟨l,rfl,by rw [<- rh.len]; simp⟩
  ·exact po.elim
 ·exact po.elim,pX c⟩
def Mh (xs:List PV):Option (List PV):=match kB xs with
 | some kss=>if kss.length < 64/\nI kss=true then some ((cR kss).map tP) else none
 | none=>match kA xs with
  | some ks=>if ks.length < 64/\ks.all (fun x=>cW x == cW (.inr ""))=true then some ((cR (ks.map fun x=>[x])).flatten.map kP) else none
  | none=>none
theorem RH.same {φ:List Addr} {H H1:Hp} {h:PH} (r:RH C φ H h) (s:D7 H H1):RH C φ H1 h:=⟨r.len,r.nd,fun n b ob h1 h2=>by
 have q:=r.at' n b ob h1 h2;obtain ⟨u,hu⟩:=q.some;exact q.stay ax (Kp.same s) ((s _ _ hu).trans hu.symm)⟩
theorem PN {a b:Str}:bM [.inr a] [.inr b]=decide (a.cps.toList < b.cps.toList):=by
 unfold bM;split
 ·rename_i e;cases e
  simp [bM,List.lt_irrefl]
 ·rfl
theorem uA:∀ {r:List Str} {p:Str},risingS p r=true->((p :: r).map fun x=>[(md x:Key)]).Pairwise (fun a b=>bM b a=false)
 | [],p,_=>List.pairwise_singleton _ _
 | x :: r,p,h=>by
  have h0:bM [.inr x] [.inr p]=false/\risingS x r=true:=by
   unfold risingS at h;rw [cq,ltCps_eq] at h;rw [PN];exact ⟨by simpa using h.1,h.2⟩
  have ih:=uA h0.2;rw [ay,de];refine ⟨fun z hz=>?_,ih⟩;obtain ⟨y,hy,rfl⟩:=aq.mp hz;rcases bc.mp hy with rfl | hy
  ·exact h0.1
  ·rw [ay,de] at ih;exact mI (a:=[.inr p]) (b:=[.inr x]) (c:=[.inr y]) rfl rfl h0.1 (ih.1 _ (aq.mpr ⟨y,hy,rfl⟩))
theorem PP {ks:List Key} (h:ks.all (fun x=>cW x == cW (.inr ""))=true):∃ ss:List Str,ks=ss.map md:=by
 induction ks with
 | nil=>exact ⟨[],rfl⟩
 | cons a ks ih=>
  rw [ib,cq] at h;obtain ⟨ss,e⟩:=ih h.2;cases a with
  | inl i=>exact absurd h.1 (by simp [cW])
  | inr x=>exact ⟨x :: ss,by rw [e]; rfl⟩
theorem BL {φ:List Addr} {H:Hp}:∀ {ss:List Str} {vs:List V},RVs C φ H (ss.map PV.str) vs ↔ vs=ss.map V.str
 | [],[]=>by simp [RVs]
 | [],_ :: _=>by simp [RVs]
 | _ :: _,[]=>by simp [RVs]
 | x :: ss,v :: vs=>by
  simp only [ay,RVs,List.cons.injEq];exact and_congr m7 BL
theorem Au:∀ ss:List Str,(((ss.map fun x=>[(md x:Key)]).flatten).map kP)=ss.map PV.str
 | []=>rfl
 | x :: ss=>by
  have:=Au ss;simp only [ay,List.flatten_cons,List.singleton_append];rw [this];rfl
theorem Jt {φ:List Addr} {H:Hp} {kvs:List (Key×PV)} {ks:List (Key×V)} (r:RKv C φ H kvs ks):∀ {kss:List (List Key)},kB (kvs.map fun kv=>PV.tup [kP kv.1,kv.2])=some kss->ks.map (fun kv=>[kV kv.1,kv.2])=kss.map (fun ks=>ks.map kV):=by
 unfold RKv at r
 induction r with
 | nil=>intro kss h; cases h; rfl
 | @cons p q ps qs h t ih=>
  intro kss e;rw [ay] at e;unfold kB at e;cases e1:kA [kP p.1,p.2] with
  | none=>rw [e1] at e; cases e
  | some a=>
   cases e2:kB (ps.map fun kv=>PV.tup [kP kv.1,kv.2]) with
   | none=>rw [e1,e2] at e; cases e
   | some b=>
    rw [e1,e2] at e;cases e
    rw [ay,ay,ih e2]
    congr 1
    unfold kA at e1;rw [Ic] at e1;cases e3:kA [p.2] with
    | none=>rw [e3] at e1; cases e1
    | some c=>
     rw [e3] at e1;cases e1
     have:=pY e3
     match c,this with
     | [d],this=>
      have e4:p.2=kP d:=by simpa using this
      have rv:=h.2;rw [e4] at rv;have e5:q.2=kV d:=wC rv (Ic d);rw [h.1,e5];rfl
     | [],this=>exact absurd this (by simp)
     | _ :: _ :: _,this=>exact absurd this (by simp)
def Ie (h:PH) (n:Nat):Option (List PV):=match h[n]? with
 | some (.vw 0 d)=>match h[d]? with
  | some (.dK kvs)=>some (kvs.map fun kv=>.tup [kP kv.1,kv.2])
  | _=>none
 | _=>none
def hZ:List PV->PH->Rs PV:=fun xs h=>match xs with
 | [.ref n]=>match aN h n with
  | some ys=>match Mh ys with
   | some zs=>.ok (.ref h.length) (h++[.lst zs])
   | none=>.bad
  | none=>match Ie h n with
   | some ys=>match kB ys with
    | some kss=>if kss.length < 64/\nI kss=true then .ok (.ref h.length) (h++[.lst ((cR kss).map tP)]) else .bad
    | none=>.bad
   | none=>.bad
 | _=>.bad
theorem Dy:hV C k X (.builtin "sorted") hZ:=fun c=>bS.imp (bS.or (Bs c.calm C.K c.K) (by have:=rQ (X:=X); rw [c.K] at this; exact this)) fun vs H Q h=>by
 obtain ⟨φ,h,ps,rh,rv,po⟩:=h;unfold hZ at po;split at po
 ·rename_i n;obtain ⟨v,rfl,rx⟩:=rv.one;obtain ⟨a,rfl,ha⟩:=rx;split at po
  ·rename_i ys e;obtain ⟨a2,vs,ha2,sa,ra⟩:=bN rh e;rw [ha] at ha2; cases ha2;split at po
   ·rename_i zs ez;unfold Mh at ez;split at ez
    ·rename_i kss ek;split at ez
     ·rename_i hc;cases ez
      have ey:=wU ek;subst ey;obtain ⟨b,sh,hsh⟩:=oF hc.2;refine .inl ⟨a,kss,sh,b,rfl,hc.1,hsh,.inl ⟨vs,sa,qA.mp ra,fun l kss' vs' hl hp hs hr=>?_⟩⟩;rw [oE hsh hp hs] at hr;exact po.lnew rh (qA.mpr hr) hl
     ·cases ez
    ·split at ez
     ·rename_i ks ek;split at ez
      ·rename_i hc;cases ez
       obtain ⟨ss,rfl⟩:=PP hc.2;have ey:=pY ek;rw [cj] at ey;have ey':ys=ss.map PV.str:=ey;subst ey';have ev:=BL.mp ra;subst ev;refine .inr ⟨a,ss,rfl,sa,by simpa using hc.1,fun l ss' hl hp hs=>?_⟩
       have e1:(ss'.map fun x=>[(md x:Key)])=cR ((ss.map md).map fun x=>[x]):=by
        rw [cj];refine oE (S:=[false]) (fun y hy=>?_) (hp.map _) ?_
        ·obtain ⟨z,_,rfl⟩:=aq.mp hy; rfl
        ·cases ss' with
         | nil=>exact .nil
         | cons x r=>exact uA hs
       rw [<- e1] at po;refine po.lnew rh ?_ hl;have e2:(((ss'.map fun x=>[(md x:Key)]).flatten).map kP)=ss'.map PV.str:=Au ss';rw [e2];exact BL.mpr rfl
      ·cases ez
     ·cases ez
   ·exact po.elim
  ·split at po
   ·rename_i ys ev;split at po
    ·rename_i kss ek;obtain ⟨hc,po⟩:=po.ite;unfold Ie at ev;split at ev
     ·rename_i d hv;split at ev
      ·rename_i kvs hk;cases ev
       obtain ⟨b,hb,hH⟩:=rh.at' n a _ ha hv;obtain ⟨ks,hD,rk⟩:=rh.at' d b _ hb hk;obtain ⟨bb,sh,hsh⟩:=oF hc.2;refine .inl ⟨a,kss,sh,bb,rfl,hc.1,hsh,.inr ⟨b,ks,hH,hD,?_,fun H1 s1 l kss' vs' hl hp hs hr=>?_⟩⟩
       ·exact Jt rk ek
       ·rw [oE hsh hp hs] at hr;exact (post.weak ax (Kp.same s1) po).lnew (rh.same s1) (qA.mpr hr) hl
      ·cases ev
     ·cases ev
    ·exact po.elim
   ·exact po.elim
 ·exact po.elim
end
end L2
namespace L2
open PySem
section
variable {h:PH}
@[simp] theorem W7 {x:PV} {xs:List PV}:iF x (.tup xs) h=none:=(rfl)
@[simp] theorem X7 {x:PV} {xs:List PV}:iF x (.fl xs) h=none:=(rfl)
@[simp] theorem US {x:PV} {z:Str}:iF x (.str z) h=none:=(rfl)
@[simp] theorem W8 {i:Int} {y:PV}:iF (.int i) y h=none:=by cases y <;> rfl
@[simp] theorem W9 {i:Str} {y:PV}:iF (.str i) y h=none:=by cases y <;> rfl
theorem Dz {x:PV} {n:Nat} {xs:List PV} (e:h[n]?=some (.lst xs)):iF x (.ref n) h=none:=by
 unfold iF cM;simp [e]
@[simp] theorem X8 {x:PV} {i:Int}:vAt x (.int i) h=vIx x (.int i) h:=by unfold vAt; simp
theorem DA {x:PV} {n:Nat} {xs:List PV} (e:h[n]?=some (.lst xs)):zK x (.ref n) h=vIn x (.ref n) h:=by unfold zK; rw [Dz e]
theorem DB {x:PV} {n:Nat} {xs:List PV} (e:h[n]?=some (.lst xs)):cT x (.ref n) h=wB x (.ref n) h:=by unfold cT; rw [Dz e]
theorem qB {n:Nat} {kvs:List (Key×PV)} (e:h[n]?=some (.dK kvs)):eD (.ref n) h=true:=by unfold eD; simp [e]
theorem Ig {n:Nat} {kvs:List (Key×PV)} {x:Str} {z:PV} (e:h[n]?=some (.dK kvs)):FW (.ref n) [.str x,z] h=.ok ((aW kvs (.inr x)).getD z) h:=by
 simp [FW,dG,Do,e,pQ]
theorem Ih {n:Nat} {kvs:List (Key×PV)} {x:Str} {z:PV} (e:h[n]?=some (.dK kvs)) (c:kvs.length < 16777216):uQ (.ref n) (.str x) z h=some (h.set n (.dK (dM kvs (.inr x) z))):=by
 simp [uQ,e,pQ,c]
theorem Ju {n:Nat} {kvs:List (Key×PV)} (e:h[n]?=some (.dK kvs)):wV (.ref n) [] h=.ok (.ref h.length) (h++[.vw 0 n]):=by simp [wV,e]
theorem zL {n d:Nat} {kvs:List (Key×PV)} {kss:List (List Key)} (e1:h[n]?=some (.vw 0 d)) (e2:h[d]?=some (.dK kvs)) (ek:kvs.map (fun kv=>PV.tup [kP kv.1,kv.2])=kss.map tP) (h1:kss.length < 64) (h2:nI kss=true):
  hZ [.ref n] h=.ok (.ref h.length) (h++[.lst ((cR kss).map tP)]):=by
 have e3:aN h n=none:=by simp [aN,e1]
 have e4:Ie h n=some (kvs.map fun kv=>PV.tup [kP kv.1,kv.2]):=by simp [Ie,e1,e2]
 simp only [hZ,e3,e4,ek,pZ];rw [if_pos ⟨h1,h2⟩]
theorem BM {n:Nat} {kss:List (List Key)} (e1:h[n]?=some (.lst (kss.map tP))) (h1:kss.length < 64) (h2:nI kss=true):
  hZ [.ref n] h=.ok (.ref h.length) (h++[.lst ((cR kss).map tP)]):=by
 have e3:aN h n=some (kss.map tP):=by simp [aN,e1]
 simp only [hZ,e3,Mh,pZ];rw [if_pos ⟨h1,h2⟩]
theorem DC {ps:List PV} {rs:List (Key×PV)} (e:lG ps=some rs):wR [.tup ps] h=.ok (.ref h.length) (h++[.dK (sE [] rs)]):=by simp [wR,e]
end
end L2
namespace L2
open PySem PySem.Spec PyProof.Rows
section
variable {C:MC} {k:Nat} {X:Cx}
def mK:PV->List PV->PH->Rs PV:=fun x ps h=>match x,ps with
 | .ref n,[y,z]=>match pQ y with
  | some key=>match h[n]? with
   | some (.dK kvs)=>match aW kvs key with
    | some p=>.ok p h
    | none=>if kvs.length < aw then .ok z (h.set n (.dK (dM kvs key z))) else .bad
   | _=>.bad
  | none=>if y.isKt=true then (match cM h n with
   | some kvs=>match aW kvs y with
    | some p=>.ok p h
    | none=>if kvs.length < aw then .ok z (h.set n (.dD (dM kvs y z))) else .bad
   | none=>.bad) else .bad
 | _,_=>.bad
theorem Mj {κ:Type} [DecidableEq κ] (kvs:List (κ×PV)) (a:κ) (p:PV):(dM kvs a p).length<=kvs.length+1:=by
 unfold dM;split
 ·rw [ae]; omega
 ·simp
theorem zM (c:Cxt C k X):MtR X "dict.setdefault" (rM C mK):=fun pins s σ H x xs v us Q I rx rs h=>by
 obtain ⟨φ,h,p,ps,rh,rp,rps,po⟩:=h;unfold mK at po;split at po
 ·rename_i n y z;obtain ⟨a,rfl,ha⟩:=rp;cases rx
  obtain ⟨yv,zv,rfl,ry,rz⟩:=rps.two;obtain ⟨yu,zu,rfl,ryu,rzu⟩:=vals2 rs;split at po
  ·rename_i key hkey;split at po
   ·rename_i kvs hk;obtain ⟨ks,hH,rk⟩:=rh.at' n a _ ha hk;have ey:=wC ry hkey;subst ey;obtain ⟨hz,hd,vs,rel,dd⟩:=D8 I.hok hH;have hzv:vs.length<=aw:=by rw [<- rel.length]; exact hz
    have lv:=rY rk key;have rv:=rel.val key;refine jf ko dd.typeIs PySem.F.entry_dict_setdefault (PySem.F.args_dict_setdefault_3 _ _ _) (jN (bL X.prog X.w) a hd (pD ryu) zu) ⟨vs,dd,hzv,fun v e=>?_,fun e h' dd' hs=>?_⟩
    ·rw [e] at rv;cases e1:iP ks key with
     | none=>rw [e1] at rv; exact rv.elim
     | some v1=>
      rw [e1] at rv lv;cases e2:aW kvs key with
      | none=>rw [e2] at lv; exact lv.elim
      | some p1=>
       rw [e2] at lv po;exact ⟨v1,H,I.tok _,rv,po.val rh lv⟩
    ·rw [e] at rv;cases e1:iP ks key with
     | some v1=>rw [e1] at rv; exact rv.elim
     | none=>
      rw [e1] at lv;cases e2:aW kvs key with
      | some p1=>rw [e2] at lv; exact lv.elim
      | none=>
       rw [e2] at po;obtain ⟨hl,po⟩:=po.ite;have hl':(putK ks key zv).length<=aw:=by
        have:=gY ks key zv;have e3:=ee rk;omega
       have he:∃ q,h'.get? a=some q:=let ⟨q,_,_,hq,_⟩:=dd'; ⟨q,hq⟩;refine ⟨zv,upd H a (.dK (putK ks key zv)),pF I (by rw [hH]; exact ki) hs he (Bm hl' hd (rel.put key rzu) dd'),rzu,?_⟩;have kp:Kp H (upd H a (.dK (putK ks key zv))):=Kp.dK hH;exact po φ zv _ ax kp (rh.write ha (by rw [hH]; exact ki) ⟨_,bH,(wQ rk key rz).mono ax kp⟩) (rz.mono ax kp)
   ·exact po.elim
  ·obtain ⟨hk,po⟩:=po.ite;split at po
   ·rename_i kvs ht;obtain ⟨b,rfl⟩:=jR hk ry;cases ryu
    obtain ⟨⟨ks,xs,r,rx',hz,hm,dd⟩,mu,nt⟩:=tX I c.K c.w rh ha ht;have hv:=HD.val (a:=a) r rx' y;refine jf ko dd.typeIs PySem.F.entry_dict_setdefault (PySem.F.args_dict_setdefault_3 _ _ _) (kF (kQ X.prog X.w) a b hm zu) ⟨c.room6,y,xs,tY I c.K hk ry,dd,hz,fun p e=>?_,fun e h' dd' hs=>?_⟩
    ·rw [e] at hv;cases e2:aW kvs y with
     | none=>rw [e2] at hv; exact hv.elim
     | some p1=>
      rw [e2] at hv po;obtain ⟨v',rv1,rv2⟩:=hv;exact ⟨v',H,I.tok _,rv1,po.val rh rv2⟩
    ·rw [e] at hv;cases e2:aW kvs y with
     | some p1=>rw [e2] at hv; exact hv.elim
     | none=>
      rw [e2] at po;obtain ⟨hl,po⟩:=po.ite;obtain ⟨ks',r1,r2⟩:=HD.put (a:=a) r rx' (pW hk) ry rz rzu;obtain ⟨o,es,ep,hq,h2,h3,h4,_,h5⟩:=dd';have hl2:ks'.length<=aw:=by
       have e1:=ee r1;have e3:=Mj kvs y z;omega
      refine ⟨zv,upd H a (dDO C.w a ks'),pF I mu hs ⟨o,hq⟩ ⟨⟨hl2,hm,_,r2,o,es,ep,hq,h2,h3,?_,h5⟩,⟨o,hq⟩,?_⟩,rzu,?_⟩
      ·rw [h4,<- c.w]; rfl
      ·rintro g1 g2 ⟨z1,z2,ws,z3,o',es',ep',z4,z5⟩ keep;exact ⟨z1,z2,ws,z3,o',es',ep',keep _ z4,z5⟩
      ·exact po φ zv _ ax (Kp.upd nt) (rh.write ha nt ⟨ks',bH,RKd.mono ax (Kp.upd nt) r1⟩) (rz.mono ax (Kp.upd nt))
   ·exact po.elim
 ·exact po.elim
theorem BN:MtG C k X "dict" eD "dict.setdefault" mK:=fun c=>⟨zM c,pX c⟩
end
section
variable {C:MC} {k:Nat} {X:Cx}
def jS (h:PH) (d:Nat):Option (List PV):=match h[d]? with
 | some (.dK kvs)=>some (kvs.map (·.2))
 | some (.dD kvs)=>some (kvs.map (·.2))
 | _=>none
theorem FY {prog:Program} {w:World} {K:Type} [DecidableEq K] {knd:KeyKind prog w K} {es:List DictEntry} {kvs:List (K×Value)} (h:Pairs knd es kvs):es.map (·.val)=kvs.map (·.2):=by
 apply g7;intro i;rw [au,au];have hl:=h.length
 by_cases hi:i < es.length
 ·have e1:es[i]?=some es[i]:=by simp [hi]
  have hi':i < kvs.length:=by omega
  have e2:kvs[i]?=some (kvs[i].1,kvs[i].2):=by simp [hi']
  rw [e1,e2];exact congrArg some (h.get? e1 e2).2
 ·rw [k6 (by omega),k6 (by omega)];rfl
theorem DD {pins:List (Addr×Obj)} {σ:St} {H:Hp} {s:Shared} {φ:List Addr} {h:PH} {d:Nat} {b:Addr} {xs:List PV} (c:Cxt C k X) (I:Inv X pins σ H s) (rh:RH C φ H h) (hb:φ[d]?=some b) (e:jS h d=some xs):
  s.TypeIs (.ref b) "dict" /\ (b == fh)=false/\xs.length<=aw/\∃ oc es ep,s.heap.get? b=some oc/\oc.data=.dict es ep/\∃ ws,RVs C φ H xs ws/\aM ws (es.toList.map (·.val)):=by
 unfold jS at e;split at e
 ·rename_i kvs hk;cases e
  obtain ⟨ks,hH,rk⟩:=rh.at' d b _ hb hk;obtain ⟨z,hd,vs,rel,dd⟩:=D8 I.hok hH;refine ⟨dd.typeIs,hd,by rw [ae,ee rk]; exact z,?_⟩;obtain ⟨oc,es,ep,g1,g2,g3,g4,g5,g6⟩:=dd;refine ⟨oc,es,ep,g1,g3,ks.map (·.2),?_,?_⟩
  ·unfold RKv at rk;clear hk hH rel z
   induction rk with
   | nil=>trivial
   | cons q t ih=>exact ⟨q.2,ih⟩
  ·rw [FY g5];clear hk hH g4 g5 g6 z;unfold KV at rel;clear rk
   induction rel with
   | nil=>exact .nil
   | cons q t ih=>exact .cons q.2 ih
 ·rename_i kvs hk;cases e
  have ht:cM h d=some kvs:=by unfold cM; rw [hk]
  obtain ⟨⟨ks,ys,r,rx',hz,hm,dd⟩,_⟩:=tX I c.K c.w rh hb ht;have hlen:kvs.length=ys.length:=(ee r).trans (ee rx');refine ⟨dd.typeIs,hm,by rw [ae,hlen]; exact hz,?_⟩;obtain ⟨oc,es,ep,g1,g2,g3,g4,g5,g6⟩:=dd;refine ⟨oc,es,ep,g1,g3,ks.map (·.2.2),?_,?_⟩
  ·unfold RKd at r;clear hk ht rx' hlen
   induction r with
   | nil=>trivial
   | cons q t ih=>exact ⟨q.2.2.2,ih⟩
  ·rw [g4,cj];clear hk ht r hlen hz g4 g5 g6
   induction rx' with
   | nil=>exact .nil
   | cons q t ih=>exact .cons q.2.2 ih
 ·cases e
def DE:PV->List PV->PH->Rs PV:=fun x ps h=>match x,ps with
 | .ref n,[]=>match jS h n with
  | some _=>.ok (.ref h.length) (h++[.vw 1 n])
  | none=>.bad
 | _,_=>.bad
theorem m_values:MtG C k X "dict" eD "dict.values" DE:=fun c=>⟨fun pins s σ H x xs v us Q I rx rs h=>by
 obtain ⟨φ,h,p,ps,rh,rp,rps,po⟩:=h;unfold DE at po;split at po
 ·rename_i n;split at po
  ·rename_i ys ey;obtain ⟨a,rfl,ha⟩:=rp;have:xs=[]:=by cases xs <;> first | rfl | exact rps.elim
   subst this;cases rx
   cases rs
   obtain ⟨hT,hm,_⟩:=DD c I rh ha ey;refine jf PySem.F.slot_dict_values hT PySem.F.entry_dict_values (PySem.F.args_dict_values_1 _) (Bt a hm) ⟨hT,?_⟩;have fr:H s.heap.objs.size=none:=I.fresh;refine ⟨.ref s.heap.objs.size,_,I.laid (t':=s.toks) (o:=S2 1 s.heap.objs.size a) (fun b u e=>ah _ e) (ai _) ?_,rfl,?_⟩
   ·exact ⟨⟨_,a8 _ rfl,rfl,rfl⟩,⟨_,a8 _ rfl⟩,fun h1 h2 ⟨o,e,p⟩ k=>⟨o,k o e,p⟩⟩
   ·exact po (φ++[s.heap.objs.size]) (.ref _) _ (c7 _ _) (Kp.new fr) (rh.new fr ⟨a,gZ (c7 _ _) ha,bH⟩) ⟨_,rfl,by rw [<- rh.len]; simp⟩
  ·exact po.elim
 ·exact po.elim,pX c⟩
def wW (h:PH) (n:Nat):Option (List PV):=match h[n]? with
 | some (.vw 1 d)=>jS h d
 | _=>none
theorem Ml {es:Array DictEntry} {acc:Array Value} (h:ItemsOf (fun i v=>∃ e,es[i]?=some e/\v=e.val) acc es.size):acc.toList=es.toList.map (·.val):=by
 apply g7;intro i;rw [au,Array.getElem?_toList,Array.getElem?_toList]
 by_cases hi:i < acc.size
 ·have e1:acc[i]?=some acc[i]:=by simp [hi]
  obtain ⟨e,h1,h2⟩:=h.2 i _ e1;rw [e1,h1,h2];rfl
 ·have hi':¬ i < es.size:=by rw [<- h.1]; exact hi
  rw [Array.getElem?_eq_none (by omega),Array.getElem?_eq_none (by omega)];rfl
end
section
variable {h:PH}
theorem Ii {n:Nat} (e:h[n]?=some (.dK [])):cM h n=some []:=by simp [cM,e]
theorem Ij {n:Nat} {kvs:List (PV×PV)} (e:h[n]?=some (.dD kvs)):cM h n=some kvs:=by simp [cM,e]
end
end L2
namespace L2
open PySem PySem.Spec PyProof.Rows PySem.SeqAt PySem.W
def XT (l:List Nat):List Int:=l.map (fun (c:Nat)=>(c:Int)+2)++[1]
mutual
def enc:PV->List Int
 | .int i=>[i]
 | .str x=>XT x.cps.toList
 | .tup xs=>W' xs
 | _=>[]
def W':List PV->List Int
 | []=>[0]
 | x :: xs=>1 :: (enc x++W' xs)
end
def ltN (x y:PV):Bool:=decide (enc x < enc y)
section
variable {α:Type} (key:α->PV)
def Wa (x:α):List α->List α
 | []=>[x]
 | y :: ys=>if ltN (key y) (key x) then y :: Wa x ys else x :: y :: ys
def Sb:List α->List α
 | []=>[]
 | x :: xs=>Wa key x (Sb xs)
end
section
variable {prog:Program} {w:World} {A:Around} {E:Value->Shared->Prop} {s:Shared}
def fk:PV->Nat
 | .tup (.int _ :: _)=>0
 | .tup (.str _ :: _)=>1
 | .tup (.tup _ :: _)=>2
 | _=>3
end
structure OkN (m:Nat) (xs:List PV):Prop where
 m3:m < 3
 ky:∀ x∈xs,x.ky 20=true
 fk:∀ x∈xs,fk x=m
 lt:∀ x∈xs,∀ y∈xs,(ltP 20 x y).isSome=true
section
variable {C:MC} {k:Nat} {X:Cx}
def Av:List PV->Option (List Str)
 | []=>some []
 | .str x :: r=>(Av r).map (x :: ·)
 | _=>none
theorem DF:∀ ss:List Str,Av (ss.map PV.str)=some ss
 | []=>rfl
 | x :: r=>by
  show (Av (r.map PV.str)).map (x :: ·)=_
  rw [DF r];rfl
theorem DG:∀ {xs:List PV} {ss:List Str},Av xs=some ss->xs=ss.map PV.str
 | [],ss,h=>by cases h; rfl
 | x :: r,ss,h=>by
  cases x with
  | str z=>
   have h':(Av r).map (z :: ·)=some ss:=h;obtain ⟨t,ht,rfl⟩:=a7.mp h';rw [DG ht];rfl
  | _=>cases h
end
end L2
namespace L2
open PySem PySem.Spec PyProof.Rows
abbrev KP:=List Key×PV
def uB (x:KP):List KP->List KP
 | []=>[x]
 | y :: ys=>if bM y.1 x.1=true then y :: uB x ys else x :: y :: ys
def gO:List KP->List KP
 | []=>[]
 | x :: xs=>uB x (gO xs)
theorem oG (x:KP):∀ ys,(uB x ys).Perm (x :: ys)
 | []=>.refl _
 | y :: ys=>by
  unfold uB;split
  ·exact ((oG x ys).cons y).trans (.swap x y ys)
  ·exact .refl _
theorem iA:∀ xs,(gO xs).Perm xs
 | []=>.refl _
 | x :: xs=>(oG x _).trans ((iA xs).cons x)
theorem qC {S:List Bool} {x:KP} (hx:shape x.1=S):∀ {ys:List KP},(∀ y∈ys,shape y.1=S)->ys.Pairwise (fun a b=>bM b.1 a.1=false)->(uB x ys).Pairwise (fun a b=>bM b.1 a.1=false)
 | [],_,_=>List.pairwise_singleton _ _
 | y :: ys,hs,hp=>by
  have hy:=hs y aj;have hs':=fun z hz=>hs z (ao _ hz);rw [de] at hp;unfold uB;split
  ·rename_i h;rw [de];refine ⟨fun z hz=>?_,qC hx hs' hp.2⟩;rcases bc.mp ((oG x ys).mem_iff.mp hz) with rfl | hz
   ·exact pM h
   ·exact hp.1 z hz
  ·rename_i h;have h':bM y.1 x.1=false:=by simpa using h
   rw [de];refine ⟨fun z hz=>?_,de.mpr hp⟩;rcases bc.mp hz with rfl | hz
   ·exact h'
   ·exact mI (hx.trans hy.symm) (hy.trans (hs' z hz).symm) h' (hp.1 z hz)
theorem iH {S:List Bool}:∀ {xs:List KP},(∀ y∈xs,shape y.1=S)->(gO xs).Pairwise (fun a b=>bM b.1 a.1=false)
 | [],_=>.nil
 | x :: xs,hs=>qC (hs x aj) (fun y hy=>hs y (ao _ ((iA xs).mem_iff.mp hy))) (iH fun y hy=>hs y (ao _ hy))
theorem Aw {α β:Type}:∀ {l:List (α×β)},(l.map (·.1)).Nodup->∀ {a b:α×β},a∈l->b∈l->a.1=b.1->a=b
 | [],_,_,_,h,_,_=>nomatch h
 | x :: l,nd,a,b,ha,hb,e=>by
  rw [ay,fu] at nd;rcases bc.mp ha with rfl | ha'
  ·rcases bc.mp hb with rfl | hb'
   ·rfl
   ·exact (nd.1 (aq.mpr ⟨b,hb',e.symm⟩)).elim
  ·rcases bc.mp hb with rfl | hb'
   ·exact (nd.1 (aq.mpr ⟨a,ha',e⟩)).elim
   ·exact Aw nd.2 ha' hb' e
theorem wX {S:List Bool} {xs ys:List KP} (hs:∀ y∈xs,shape y.1=S) (nd:(xs.map (·.1)).Nodup) (hp:ys.Perm xs) (h:ys.Pairwise (fun a b=>bM b.1 a.1=false)):ys=gO xs:=by
 refine ip (le:=fun a b=>bM b.1 a.1=false) (fun a b ha hb h1 h2=>?_) h (iH hs) (hp.trans (iA xs).symm);have ha':=hp.mem_iff.mp ha;have hb':=(iA xs).mem_iff.mp hb;exact Aw nd ha' hb' (kM ((hs a ha').trans (hs b hb').symm) h2 h1)
open Classical in
noncomputable def sortBy (b:Bool) (ks ys:List PV):Option (List PV):=match kB ks with
 | some kss=>if kss.length < 64/\kss.length=ys.length/\nI kss=true/\kss.Nodup then some ((m6 b (gO (kss.zip ys))).map (·.2)) else none
 | none=>none
theorem Jv {b:Bool} {kss:List (List Key)} {ys:List PV} (h1:kss.length < 64) (h2:kss.length=ys.length) (h3:nI kss=true) (h4:kss.Nodup):sortBy b (kss.map tP) ys=some ((m6 b (gO (kss.zip ys))).map (·.2)):=by
 unfold sortBy;rw [pZ];exact if_pos ⟨h1,h2,h3,h4⟩
noncomputable def iB (f:Fn) (b:Bool) (ys:List PV):List PV->List PV->PH->Rs PV
 | [],ks,h=>match sortBy b ks ys with
  | some zs=>.ok (.ref h.length) (h++[.lst zs])
  | none=>.bad
 | x :: xs,ks,h=>(f [x] h).bind fun k h1=>iB f b ys xs (ks++[k]) h1
def iI (x:PV) (h:PH):Option (List PV):=match x with
 | .ref n=>match aN h n with
  | some ys=>some ys
  | none=>wW h n
 | .fl ys=>some ys
 | _=>none
noncomputable def lH (f:Fn) (b:Bool) (x:PV) (h:PH):Rs PV:=match iI x h with
 | some ys=>if ys.length < 64 then iB f b ys ys [] h else .bad
 | none=>.bad
noncomputable def sG (f:Fn) (b:Bool) (me:Me):Me:=fun δ h=>(me δ h).bind fun x h1=>lH f b x h1
section
variable {C:MC} {k:Nat} {X:Cx}
theorem RVs.pick {φ:List Addr} {H:Hp} {xs:List PV} {vs:List V} (r:RVs C φ H xs vs):∀ {p:List Nat},(∀ i∈p,i < xs.length)->RVs C φ H (p.map fun i=>xs.getD i .non) (p.map fun i=>vs.getD i .non)
 | [],_=>trivial
 | i :: p,h=>by
  have hi:=h i aj;have g:xs[i]?=some (xs.getD i .non):=by simp [hi]
  obtain ⟨v,hv,hr⟩:=r.at g;have e:vs.getD i .non=v:=by simp [fb,hv]
  refine ⟨?_,RVs.pick r fun j hj=>h j (ao _ hj)⟩
  show RV C φ H (xs.getD i .non) (vs.getD i .non)
  rw [e];exact hr
theorem wY {pins:List (Addr×Obj)} {σ:St} {H:Hp} {s:Shared} (I:Inv X pins σ H s) {a:Addr} (ha:s.heap.objs.size<=a):X.s₀.heap.objs.size<=a/\a≠X.env.locals/\(∀ x c,X.env.cells.lookup x=some c->c≠a)/\(∀ p∈X.pn++pins,p.1≠a)/\a∉X.fs:=by
 refine ⟨c4 I.sz ha,Nat.ne_of_gt (bp I.lt ha),fun x c e z=>?_,fun p hp z=>?_,I.nofs ha⟩
 ·obtain ⟨v,o,ho,_⟩:=I.cell x c e;rw [z] at ho;exact absurd (bp (az ho) ha) (fj _)
 ·have ho:=(I.pin p hp).1;rw [z] at ho;exact absurd (bp (az ho) ha) (fj _)
theorem iC {its:Array Value} {e:Nat}:∀ v,(seqObj "list" its e).data≠.cell v:=fun v z=>nomatch z
theorem Inv.adopt {pins:List (Addr×Obj)} {σ:St} {H:Hp} {s:Shared} {a d:Addr} {o:HO} {h':Heap} (I:Inv X pins σ H s) (ha:H a=none) (hd:H d=none)
  (fa:X.s₀.heap.objs.size<=a/\a≠X.env.locals/\(∀ x c,X.env.cells.lookup x=some c->c≠a)/\(∀ p∈X.pn++pins,p.1≠a)/\a∉X.fs) (fd:X.s₀.heap.objs.size<=d/\d≠X.env.locals/\(∀ x c,X.env.cells.lookup x=some c->c≠d)/\(∀ p∈X.pn++pins,p.1≠d)/\d∉X.fs)
  (kp:∀ x u,x≠a->x≠d->s.heap.get? x=some u->h'.get? x=some u) (new:cP X.prog X.w (upd H a o) h' a o):Inv X pins σ (upd H a o) { s with heap:=h' }:=by
 have na:∀ x u,H x=some u->x≠a:=fun x u e z=>by rw [z,ha] at e; cases e
 have nd:∀ x u,H x=some u->x≠d:=fun x u e z=>by rw [z,hd] at e; cases e
 refine I.call' (s':={ s with heap:=h' }) (ch:=[a,d]) rfl ⟨fun b u q n _ hx=>?_,fun b u q n _ hx=>⟨u.slots,?_⟩,fun b u q n hx=>?_,fun b u q hx=>⟨u,?_⟩,fun b xs q=>?_,fun b u xs q=>?_,fun b ps q=>⟨#[],?_⟩⟩ (fun b u e=>?_) I.bare fun b hb=>?_
 ·exact kp b u (fun z=>hx (by simp [z])) (fun z=>hx (by simp [z])) q
 ·exact kp b u (fun z=>hx (by simp [z])) (fun z=>hx (by simp [z])) q
 ·rw [bF (fun z=>hx (by simp [z]))]; exact n
 ·exact kp b u (fun z=>hx (by simp [z])) (fun z=>hx (by simp [z])) q
 ·rw [bF (na _ _ q)]; exact q
 ·rw [bF (na _ _ q)]; exact q
 ·rw [bF (na _ _ q),q]; simp
 ·by_cases hb:b=a
  ·subst hb; rw [bH] at e; cases e; exact new
  ·rw [bF hb] at e;refine (I.hok b u e).stay (fun c v hc q=>kp c v ?_ ?_ q) (fun c q=>by rw [bF (na _ _ q)]; exact q) fun c xs q=>by rw [bF (na _ _ q)]; exact q
   ·rcases hc with z | z
    ·rw [z]; exact hb
    ·exact na _ _ z
   ·rcases hc with z | z
    ·rw [z]; exact nd _ _ e
    ·exact nd _ _ z
 ·rcases bc.mp hb with rfl | hb
  ·exact ⟨.inr fa.1,fa.2.1,fa.2.2.1,fa.2.2.2.1⟩
  ·rw [bu.mp hb];exact ⟨.inr fd.1,fd.2.1,fd.2.2.1,fd.2.2.2.1⟩
def TN (C:MC) (X:Cx) (pins:List (Addr×Obj)) (σ:St) (φ:List Addr) (H:Hp) (f:Fn) (b:Bool) (ys:List PV) (Q:VK) (a z:Addr) (kS:Addr) (e1:Nat) (ks:List Value) (e:Nat) (s':Shared):Prop:=
 z < kS/\∃ H' φ' h' zs ps,Inv X (pins++[(kS,seqObj "list" ks.toArray e),(a,seqObj "list" #[] e1)]) σ H' s'/\φ<+:φ'/\Kp H H'/\RH C φ' H' h'/\aM zs ks/\RVs C φ' H' ps zs/\post C φ' H' (iB f b ys (ys.drop ks.length) ps h') Q
section
variable {x:Str} {st:Stmt} {q:Addr} {fd:c3} {pn:List Str} {j:Nat} {f:Fn}
theorem Mm {pins:List (Addr×Obj)} {σ:St} {φ:List Addr} {H:Hp} {b:Bool} {ys:List PV} {us:List V} {its:List Value} {Q:VK} {a:Addr} (c:Cxt C k X) (D:Def C.K X.mg x st q fd pn) (G:aU X.prog X.w C.K X.mg X.base CX0 j q fd pn (spM C 1 f)) (hj:j+2<=k)
  (ry:RVs C φ H ys us) (rv:aM us its) {A':Around} (eA:A'=X.A.in1.in1) (fr:∀ kS,a<=kS->X.s₀.heap.objs.size<=kS/\kS≠X.env.locals/\(∀ x c,X.env.cells.lookup x=some c->c≠kS)/\(∀ p∈X.pn++pins,p.1≠kS)/\kS∉X.fs)
  (kS:Addr) (e1:Nat) (ks:List Value) (e:Nat) (s':Shared) (y:Value) (hy:its[ks.length]?=some y) (hJ:TN C X pins σ φ H f b ys Q a a kS e1 ks e s'):
  wpAny (model X.prog X.w) A' (call (.ref q) [y]) (fun v s''=>s''.heap.get? kS=some (seqObj "list" ks.toArray e)/\∀ (h':Heap) e',ie kS s''.heap h'->h'.get? kS=some (seqObj "list" (ks++[v]).toArray e')->TN C X pins σ φ H f b ys Q a a kS e1 (ks++[v]) e' { s'' with heap:=h' }) (fun _ _=>False) s':=by
 subst eA;obtain ⟨hz,H',φ',h',zs,ps,I,pp,tt,rh,rz,rp,po⟩:=hJ;have hlt:ks.length < its.length:=(ab.mp hy).1;have hlu:us.length=its.length:=rv.length;have hly:ys.length=us.length:=ry.length;have gy:ys[ks.length]?=some (ys[ks.length]'(by omega)):=by simp
 obtain ⟨u,hu,ru⟩:=ry.at gy;obtain ⟨y',hy',ryv⟩:=rv.get hu;rw [hy] at hy';cases hy'
 have hd:ys.drop ks.length=ys[ks.length]'(by omega) :: ys.drop (ks.length+1):=drop_cons gy;rw [hd] at po;have e1':=c.K;have G':aU X.prog X.w X.K X.mg X.base CX0 j q fd pn (spM C 1 f):=by rw [e1']; exact G
 have D':Def X.K X.mg x st q fd pn:=by rw [e1']; exact D
 have sp1:spM C 1 f [u] H' (fun v H2=>∃ φ2 p h2,φ'<+:φ2/\Kp H' H2/\RH C φ2 H2 h2/\RV C φ2 H2 p v/\post C φ2 H2 (iB f b ys (ys.drop (ks.length+1)) (ps++[p]) h2) Q) E0:=
  ⟨φ',h',[ys[ks.length]'(by omega)],rh,⟨ru.mono pp tt,trivial⟩,rfl,post.bind po⟩
 have hl:([y]:List Value).length=pn.length:=G'.len _ _ _ _ sp1;refine wpAny_call (codeAny_mono (G'.run X.A.in1.in1 X.stack s' H' ⟨[y],[]⟩ [y] [u] _ E0 ((c.room.mono hj).in1.in1) I.env0.in1.in1 (by
  have:=D'.bd s' [y] I.kIn (by simpa using hl)
  simpa using this) (.cons ryv .nil) sp1) fun r s2 hq=>?_)
 cases r with
 | error e=>exact hq.elim
 | ok fl=>
  cases fl with
  | next=>exact gz hq
  | brk=>exact gz hq
  | cont=>exact gz hq
  | ret v=>
   obtain ⟨x2,H2,I2,rx2,φ2,p2,h2,pp2,tt2,rh2,rp2,po2⟩:=I.after hq;have gk:=I2.pin (kS,seqObj "list" ks.toArray e) (ak _ (ak _ aj));have ga:=I2.pin (a,seqObj "list" #[] e1) (ak _ (ak _ (ao _ aj)));refine ⟨gk.1,fun g e' sb he'=>?_⟩;have fk:=fr kS (iy hz);have nak:a≠kS:=a9 hz;have I3:Inv X (pins++[(a,seqObj "list" #[] e1)]) σ H2 s2:=I2.pins_of fun p hp=>(bj.mp hp).elim (fun z=>I2.pin p (ak _ (f7 _ z))) fun z=>by
    rw [bu.mp z]; exact ga
   have I4:=I3.turned (t':=s2.toks) (it:=kS) (h':=g) (fun b' o' hb hq=>(sb.2 b' hb).trans hq) gk.2.1 fk.2.1 (.inr fk.1) fk.2.2.1 (fun p hp=>by
    rcases bj.mp hp with hp | hp
    ·exact fk.2.2.2.1 p (f7 _ hp)
    ·rcases bj.mp hp with hp | hp
     ·exact fk.2.2.2.1 p (ak _ hp)
     ·rw [bu.mp hp]; exact nak)
   refine ⟨hz,H2,φ2,h2,zs++[x2],ps++[p2],I4.pins_of fun p hp=>?_,pp.trans pp2,tt.trans tt2,rh2,rz.append (.cons rx2 .nil),(rp.mono pp2 tt2).snoc rp2,?_⟩
   ·rcases bj.mp hp with hp | hp
    ·exact I4.pin p (ak _ (f7 _ hp))
    ·rcases bc.mp hp with rfl | hp
     ·exact ⟨he',gk.2.1,fk.2.1,fk.2.2.2.2,iC⟩
     ·rw [bu.mp hp];exact I4.pin _ (ak _ (ak _ aj))
   ·rw [d7];exact po2
theorem DH {b:Bool} {kss:List (List Key)} {ys:List PV} {S:List Bool} (hl:kss.length=ys.length) (hs:∀ y∈kss,shape y=S) (nd:kss.Nodup) {p:List Nat} (hp:p.Perm (ba ys.length))
  (ho:p.Pairwise (fun i j=>(if b then bM (kss.getD i []) (kss.getD j []) else bM (kss.getD j []) (kss.getD i []))=false)):p.map (fun i=>ys.getD i .non)=(m6 b (gO (kss.zip ys))).map (·.2):=by
 let zs:=kss.zip ys;have hzl:zs.length=ys.length:=by show (kss.zip ys).length=_; simp [hl]
 have hin:∀ i∈p,i < ys.length:=fun i hi=>by simpa using hp.mem_iff.mp hi
 have eg:∀ i,i < ys.length->zs.getD i ([],.non)=(kss.getD i [],ys.getD i .non):=fun i hi=>by
  have h1:i < kss.length:=by omega
  have h2:i < zs.length:=by omega
  have h3:(kss.zip ys)[i]?=some (kss[i],ys[i]):=by
   rw [List.getElem?_zip_eq_some];exact ⟨by simp [h1],by simp [hi]⟩
  show (kss.zip ys).getD i _=_
  simp [h1,hi,h3]
 have hpz:(p.map fun i=>zs.getD i ([],.non)).Perm zs:=Ak (by rw [hzl]; exact hp);have hm:zs.map (·.1)=kss:=by
  show (kss.zip ys).map Prod.fst=kss
  exact List.map_fst_zip (by omega)
 have hsz:∀ y∈zs,shape y.1=S:=fun y hy=>hs _ (by rw [<- hm]; exact aq.mpr ⟨y,hy,rfl⟩);have e2:p.map (fun i=>ys.getD i .non)=(p.map fun i=>zs.getD i ([],.non)).map (·.2):=by
  rw [cj];exact d0 fun i hi=>by show _=(zs.getD i _).2; rw [eg i (hin i hi)]
 rw [e2];have key:∀ (R:Nat->Nat->Bool),p.Pairwise (fun i j=>R i j=false)->(∀ i j,i < ys.length->j < ys.length->R i j=bM (zs.getD j ([],.non)).1 (zs.getD i ([],.non)).1)->(p.map fun i=>zs.getD i ([],.non)).Pairwise (fun x y=>bM y.1 x.1=false):=fun R h1 h2=>by
  rw [df];exact h1.imp_of_mem fun {i j} hi hj h=>by rw [<- h2 i j (hin i hi) (hin j hj)]; exact h
 cases b with
 | false=>
  congr 1
  refine wX hsz (by rw [hm]; exact nd) hpz (key (fun i j=>bM (kss.getD j []) (kss.getD i [])) ho fun i j hi hj=>by rw [eg i hi,eg j hj])
 | true=>
  congr 1
  have hr:(p.map fun i=>zs.getD i ([],.non)).reverse=gO zs:=by
   refine wX hsz (by rw [hm]; exact nd) ((List.reverse_perm _).trans hpz) ?_;rw [List.pairwise_reverse,df];exact ho.imp_of_mem fun {i j} hi hj h=>by
    rw [eg i (hin i hi),eg j (hin j hj)];exact h
  show _=(gO zs).reverse
  rw [<- hr,List.reverse_reverse]
theorem wZ {b:Bool} {kw:List (Str×Value)} (c:Cxt C k X) (D:Def C.K X.mg x st q fd pn) (G:aU X.prog X.w C.K X.mg X.base CX0 j q fd pn (spM C 1 f)) (hj:j+2<=k)
  (ha1:∀ v,argsOk "sorted" ⟨[v],kw⟩) (ha2:∀ v,argsOk "list.sort" ⟨[.ref v],kw⟩) (ht:∀ v,Builtin.«list.sort» ⟨[.ref v],kw⟩=ksk_tree v (.ref q) b)
  {pins:List (Addr×Obj)} {s:Shared} {σ:St} {H:Hp} {Q:VK} {v:V} {u:Value} (I:Inv X pins σ H s) (ru:RelV v u) (h:r1 C (lH f b) v H Q):
  wpAny (model X.prog X.w) X.A (call (.builtin "sorted") [u] kw) (EP X pins σ Q) X.xe s:=by
 obtain ⟨φ,h,p,rh,rp,po⟩:=h;unfold lH at po;cases ei:iI p h with
 | none=>rw [ei] at po; exact po.elim
 | some ys=>
 rw [ei] at po;obtain ⟨h64,po⟩:=po.ite;refine call_function_entry_kw kind_sorted plain_sorted entry_sorted (ha1 u) ?_;unfold Builtin.«sorted»;refine aa (m:=checkCount "sorted" 1 1 _) (ag ?_);have col:wpAny (model X.prog X.w) X.A.in1 (collect u) (fun its s1=>∃ us,Inv X pins σ H s1/\aM us its/\RVs C φ H ys us) X.xe s:=by
  have lcase:∀ {a:Addr} {vs:List V},v=.ref a->SqL C.K H a vs->RVs C φ H ys vs->wpAny (model X.prog X.w) X.A.in1 (collect u) (fun its s1=>∃ us,Inv X pins σ H s1/\aM us its/\RVs C φ H ys us) X.xe s:=fun {a vs} ev sa ra=>by
   subst ev;cases ru
   have sa':SqL X.K H a vs:=by rw [c.K]; exact sa
   obtain ⟨its,rv,pl,hz⟩:=I.list sa';refine collect_list pl.isList ?_ (by have:=rv.length; have:=ra.length; rw [c6]; omega);exact ⟨vs,I.kept (t':=s.toks) fun b o e=>by
    have hlt:b < s.heap.objs.size:=az e
    first
     | (rw [j9 _ _ _ _ (a9 hlt),ju _ _ _ (a9 hlt)]; exact e)
     | exact ah _ e,rv,ra⟩
  unfold iI at ei;split at ei
  ·rename_i n;split at ei
   ·rename_i ys' e;cases ei
    obtain ⟨a,ev,ha⟩:=rp;obtain ⟨a2,vs,ha2,sa,ra⟩:=bN rh e;rw [ha] at ha2; cases ha2;exact lcase ev sa ra
   ·unfold wW at ei;split at ei
    ·rename_i d hv;obtain ⟨a,ev,ha⟩:=rp;subst ev;cases ru
     obtain ⟨bb,hb,hH⟩:=rh.at' n a _ ha hv;obtain ⟨hT,hm,hz,oc,es,ep,g1,g2,ws,r1,r2⟩:=DD c I rh hb ei;have hvv:s.heap.IsValuesView a bb:=(I.hok a _ hH).1;have hn:es.size<=aw:=by
      have e1:=r1.length;have e2:ws.length=es.size:=by have:=r2.length; simpa using this
      rw [<- e2,<- e1]; exact hz
     refine PySem.W.kdu_collect (LC (r:=a) g2) (I.ok.hd c.calm) ⟨hvv,g1⟩ hn fun h' tk acc hk hacc=>?_;exact ⟨ws,I.kept (t':=tk) hk,by rw [Ml hacc]; exact r2,r1⟩
    ·cases ei
  ·cases ei
   obtain ⟨a,vs,ev,sa,ra⟩:=rp;exact lcase ev sa.sq ra
  ·cases ei
 refine aa (gx col (fun its s1 hh=>?_) fun _ _ z=>z);obtain ⟨us,I1,rv,ry⟩:=hh;have hlu:us.length=its.length:=rv.length;have hly:ys.length=us.length:=ry.length;refine aa (wpAny_newList ?_ (by rw [c6]; omega));have hoL:(s1.heap.push (seqObj "list" its.toArray 0)).get? s1.heap.objs.size=some (seqObj "list" its.toArray 0):=a8 _ rfl;have keep:∀ b o,s1.heap.get? b=some o->b≠s1.heap.objs.size/\(s1.heap.push (seqObj "list" its.toArray 0)).get? b=some o:=fun b o q=>⟨a9 (az q),ah _ q⟩;have fr:∀ kS,s1.heap.objs.size<=kS->X.s₀.heap.objs.size<=kS/\kS≠X.env.locals/\(∀ x c,X.env.cells.lookup x=some c->c≠kS)/\(∀ p∈X.pn++pins,p.1≠kS)/\kS∉X.fs:=fun kS hk=>wY I1 hk
 show wpAny _ _ _ _ _ { s1 with heap:=s1.heap.push (seqObj "list" its.toArray 0) }
 refine aa (dg (wpAny_call_entry_kw slot_list_sort ⟨_,hoL,rfl⟩ entry_list_sort ?body (ha2 _)))
 case body=>
  show wpAny (model X.prog X.w) X.A.in1.in1 (Builtin.«list.sort» ⟨[.ref s1.heap.objs.size],kw⟩) _ _ _
  rw [ht s1.heap.objs.size];refine FI (s:={ s1 with heap:=s1.heap.push (seqObj "list" its.toArray 0) }) (a:=s1.heap.objs.size) (κ:=tuples' true) (vs:=its) hoL (by omega) (TN C X pins σ φ H f b ys Q s1.heap.objs.size s1.heap.objs.size) ?h0 ?hget ?turn ?fin
  case h0=>
   intro kS e1 h' kp hk g1 g2;have hk':s1.heap.objs.size < kS:=by
    have:(s1.heap.push (seqObj "list" its.toArray 0)).objs.size<=kS:=hk;rw [kj] at this;exact this
   have I2:Inv X pins σ H { s1 with heap:=h' }:=I1.kept (t':=s1.toks) fun b o q=>kp b o (keep b o q).1 (keep b o q).2;have fk:=fr kS (iy hk');have fa:=fr s1.heap.objs.size (ai _);refine ⟨hk',H,φ,h,[],[],I2.pins_of fun p hp=>?_,ax,Kp.refl H,rh,.nil,trivial,po⟩;rcases bj.mp hp with hp | hp
   ·exact I2.pin p (ak _ hp)
   ·rcases bc.mp hp with rfl | hp
    ·exact ⟨g2,I1.hok.fresh (iy hk'),fk.2.1,fk.2.2.2.2,iC⟩
    ·rw [bu.mp hp];exact ⟨g1,I1.hok.fresh (ai _),fa.2.1,fa.2.2.2.2,iC⟩
  case hget=>
   rintro kS e1 ks e s' ⟨hz,H',φ',h',zs,ps,I',_⟩;exact ⟨Nat.ne_of_gt hz,(I'.pin (s1.heap.objs.size,seqObj "list" #[] e1) (ak _ (ak _ (ao _ aj)))).1,(I'.pin (kS,seqObj "list" ks.toArray e) (ak _ (ak _ aj))).1⟩
  case turn=>
   intro kS e1 ks e s' y hy hJ;exact Mm c D G hj ry rv rfl fr kS e1 ks e s' y hy hJ
  case fin=>
   rintro kS e1 ks e s' hl ⟨hz,H',φ',h',zs,ps,I',pp,tt,rh',rz,rp',po'⟩;have hd:ys.drop ks.length=[]:=List.drop_eq_nil_of_le (by omega);rw [hd] at po';unfold iB at po';cases es:sortBy b ps ys with
   | none=>rw [es] at po'; exact po'.elim
   | some out=>
   rw [es] at po';unfold sortBy at es;split at es
   ·rename_i kss ek;split at es
    ·rename_i hc;obtain ⟨hc1,hc2,hc3,hc4⟩:=hc;cases es
     have ep:=wU ek;subst ep;obtain ⟨bb,sh,hsh⟩:=oF hc3;have rr:cI X.K H' (kss.map tD) zs:=by rw [c.K]; exact qA.mp rp'
     have tk:=nZ I' rr rz;have shOf:∀ i,i < its.length->shape (kss.getD i [])=bb :: sh:=fun i hi=>by
      have hi':i < kss.length:=by omega
      have:kss.getD i []=kss[i]:=by simp [hi']
      rw [this];exact hsh _ (fm hi')
     refine ⟨fun i j=>bM (kss.getD i []) (kss.getD j []),fun i j k hi hj hk h1 h2=>?_,fun i j _ _ h=>pM h,fun h2 Q' E' hq=>?_,fun i j hi hj Q' hq=>?_,fun p g e2 a1 a2 kp he gk=>?_⟩
     ·exact mI ((shOf i hi).trans (shOf j hj).symm) ((shOf j hj).trans (shOf k hk).symm) h1 h2
     ·exact Aj tk hsh (by omega) hq
     ·obtain ⟨a,ua,q1,p1,r1⟩:=tk.get (i:=i) (by omega);obtain ⟨d,ud,q2,p2,r2⟩:=tk.get (i:=j) (by omega);rw [q1,q2];exact vX p1 p2 r1 r2 ((shOf i hi).trans (shOf j hj).symm) hq
     ·have hin:∀ i∈p,i < its.length:=fun i hi=>by simpa using a1.mem_iff.mp hi
      have fa:=fr s1.heap.objs.size (ai _);have fk:=fr kS (iy hz);have gka:=I'.pin (kS,seqObj "list" ks.toArray e) (ak _ (ak _ aj));have gaa:=I'.pin (s1.heap.objs.size,seqObj "list" #[] e1) (ak _ (ak _ (ao _ aj)));have I5:Inv X pins σ H' s':=I'.unpinned;have I6:=I5.adopt (a:=s1.heap.objs.size) (d:=kS) (o:=.lst (p.map fun i=>us.getD i .non)) (h':=g) gaa.2.1 gka.2.1 fa fk (fun x o h1 h2 q=>kp x o h1 h2 q) (by
       refine ⟨?_,p.map (fun i=>its.getD i cx),e2,rW rv (fun i hi=>by have:=hin i hi; omega),he⟩;rw [ae,a1.length_eq,jv,c6];omega)
      refine ⟨_,rfl,ag ⟨_,rfl,.ref s1.heap.objs.size,_,I6,rfl,?_⟩⟩;refine po'.lnew rh' ?_ gaa.2.1;rw [<- DH (b:=b) hc2 hsh hc4 (p:=p) (by rw [hly,hlu]; exact a1) a2];exact (ry.mono pp tt).pick (fun i hi=>by have:=hin i hi; omega)
    ·cases es
   ·cases es
end
section
variable {kf:Str} {st:Stmt} {q:Addr} {fd:c3} {pn:List Str} {j jb:Nat} {f:Fn} {e:Expr} {me:Me} {p pos kp kpos rp rpos:Pos}
theorem DI {Q:VK} {b:Bool} {σ:St} {H:Hp} (h:rd C (sG f b me) σ H Q):Lc (rd C me) SQ σ H fun vs H1=>∃ x,vs=[x]/\r1 C (lH f b) x H1 Q:=by
 obtain ⟨φ,δ,h,rh,re,po⟩:=h;refine ⟨φ,δ,h,rh,re,(post.bind po).imp ?_⟩;rintro v H1 ⟨φ1,x,h1,p1,t1,rh1,rv1,q1⟩;exact ⟨v,rfl,φ1,h1,x,rh1,rv1,q1⟩
theorem PQ (D:Def C.K X.mg kf st q fd pn) (G:aU X.prog X.w C.K X.mg X.base CX0 j q fd pn (spM C 1 f)) (he:SE C k X e me) (hb:("sorted" : Str)∈C.bs) (hj:j+2<=k:=by decide) (hg:Gl X "sorted" := by rfl) (hgk:Gl X kf:=by rfl) (hdk:(kf == ("__debug__" : Str))=false:=by decide)
  (hst:cf [e] X.env=(false,eval e X.env) :: cf [] X.env:=by rfl) (hbk:backTo pos (cf [e] X.env)=(false,eval e X.env) :: backTo pos (cf [] X.env):=by rfl) (hpl:(backTo pos (cf [e] X.env)).any (·.1)=false:=by rfl):
  SE C k X (.Call (.Name "sorted" p) [e] [⟨some "key",.Name kf kp,kpos⟩] pos) (sG f false me):=fun c pins s σ H Q I h=>by
 refine jc (rK I hg (c.bn _ hb) PyProof.Rows.Boot.«sorted» ?_ (by decide) (by decide));refine callWith_kw (thn (uX (he c) Bf hst pos pins s σ H _ I (DI h)) fun us s1 hh=>?_) hbk hpl;obtain ⟨vs,H1,I1,rv,x,rfl,r⟩:=hh;obtain ⟨u,rfl,ru⟩:=vals1 rv;refine kws_cons (uW I1 hgk D.mg (kws_nil ?_) hdk)
 show wpAny _ _ (call (.builtin "sorted") [u] [(j3 "key",.ref q)]) _ _ _
 exact wZ c D G hj (fun v=>ksk_s1 _ _) (fun v=>ksk_l1 _ _) (fun v=>ksk_t1 _ _) I1 ru r
theorem Mn {b:Bool} (D:Def C.K X.mg kf st q fd pn) (G:aU X.prog X.w C.K X.mg X.base CX0 j q fd pn (spM C 1 f)) (he:SE C k X e me) (hb:("sorted" : Str)∈C.bs) (hj:j+2<=k:=by decide) (hg:Gl X "sorted" := by rfl) (hgk:Gl X kf:=by rfl) (hdk:(kf == ("__debug__" : Str))=false:=by decide)
  (hst:cf [e] X.env=(false,eval e X.env) :: cf [] X.env:=by rfl) (hbk:backTo pos (cf [e] X.env)=(false,eval e X.env) :: backTo pos (cf [] X.env):=by rfl) (hpl:(backTo pos (cf [e] X.env)).any (·.1)=false:=by rfl):
  SE C k X (.Call (.Name "sorted" p) [e] [⟨some "key",.Name kf kp,kpos⟩,⟨some "reverse",.Constant (.bool b) jb rp,rpos⟩] pos) (sG f b me):=fun c pins s σ H Q I h=>by
 refine jc (rK I hg (c.bn _ hb) PyProof.Rows.Boot.«sorted» ?_ (by decide) (by decide));refine callWith_kw (thn (uX (he c) Bf hst pos pins s σ H _ I (DI h)) fun us s1 hh=>?_) hbk hpl;obtain ⟨vs,H1,I1,rv,x,rfl,r⟩:=hh;obtain ⟨u,rfl,ru⟩:=vals1 rv;refine kws_cons (uW I1 hgk D.mg (kws_cons (Constant_bool (kws_nil ?_))) hdk)
 show wpAny _ _ (call (.builtin "sorted") [u] [(j3 "key",.ref q),(j3 "reverse",.bool b)]) _ _ _
 exact wZ c D G hj (fun v=>ksk_s2 _ _ _) (fun v=>ksk_l2 _ _ _) (fun v=>ksk_t2 _ _ _) I1 ru r
end
end
end L2
namespace L2
open PySem
section
variable {α:Type} (key:α->List Key)
def Jw (x:α):List α->List α
 | []=>[x]
 | y :: ys=>if bM (key y) (key x)=true then y :: Jw x ys else x :: y :: ys
def lI:List α->List α
 | []=>[]
 | x :: xs=>Jw key x (lI xs)
variable {key}
theorem Ax (x:α):∀ ys,(Jw key x ys).Perm (x :: ys)
 | []=>.refl _
 | y :: ys=>by
  unfold Jw;split
  ·exact ((Ax x ys).cons y).trans (.swap x y ys)
  ·exact .refl _
theorem oH:∀ xs,(lI key xs).Perm xs
 | []=>.refl _
 | x :: xs=>(Ax x _).trans ((oH xs).cons x)
theorem DJ (f:α->PV) (x:α):∀ ys:List α,uB (key x,f x) (ys.map fun y=>(key y,f y))=(Jw key x ys).map fun y=>(key y,f y)
 | []=>rfl
 | y :: ys=>by
  rw [ay];unfold uB Jw;dsimp only;split
  ·rw [DJ f x ys]; rfl
  ·rfl
theorem sH (f:α->PV):∀ xs:List α,gO (xs.map fun y=>(key y,f y))=(lI key xs).map fun y=>(key y,f y)
 | []=>rfl
 | x :: xs=>by
  rw [ay];unfold gO lI;rw [sH f xs,DJ]
theorem BO {S:List Bool} (f:α->PV) {xs:List α} (hs:∀ x∈xs,shape (key x)=S):(lI key xs).Pairwise (fun a b=>bM (key b) (key a)=false):=by
 have h:=iH (S:=S) (xs:=xs.map fun y=>(key y,f y)) (fun y hy=>by
  obtain ⟨x,hx,rfl⟩:=aq.mp hy;exact hs x hx)
 rw [sH,df] at h;exact h
theorem DK {β γ:Type} (f:α->β) (g:α->γ):∀ xs:List α,(xs.map f).zip (xs.map g)=xs.map fun x=>(f x,g x)
 | []=>rfl
 | x :: xs=>by simp [DK f g xs]
theorem Mp {b:Bool} {f:α->PV} {xs:List α} (h1:xs.length < 64) (h3:nI (xs.map key)=true) (h4:(xs.map key).Nodup):sortBy b ((xs.map key).map tP) (xs.map f)=some ((m6 b (lI key xs)).map f):=by
 rw [Jv (by simpa using h1) (by simp) h3 h4,DK,sH]
 cases b with
 | false=>
  show some (((lI key xs).map fun y=>(key y,f y)).map Prod.snd)=some ((lI key xs).map f)
  rw [cj]; rfl
 | true=>
  show some ((((lI key xs).map fun y=>(key y,f y)).reverse).map Prod.snd)=some ((lI key xs).reverse.map f)
  rw [<- List.map_reverse,cj]; rfl
theorem Mq {f:Fn} {b:Bool} {emb:α->PV} {ys zs:List PV} {Q:PV->PH->Prop}:∀ (r done:List α) (h:PH),(∀ d∈r,∀ h (Q:PV->PH->Prop),(∀ h',Ext h h'->Q (tP (key d)) h')->(f [emb d] h).W Q)->
  sortBy b (((done++r).map key).map tP) ys=some zs->(∀ h',Ext h h'->Q (.ref h'.length) (h'++[.lst zs]))->(iB f b ys (r.map emb) ((done.map key).map tP) h).W Q
 | [],done,h,_,hs,k=>by
  rw [my] at hs;simp only [List.map_nil,iB,hs,iE];exact k h (Ext.refl h)
 | x :: r,done,h,hf,hs,k=>by
  rw [ay];unfold iB;rw [BE];refine hf x aj h _ fun h1 x1=>?_;have e:(done.map key).map tP++[tP (key x)]=((done++[x]).map key).map tP:=by simp
  rw [e];exact Mq r (done++[x]) h1 (fun d hd=>hf d (ao _ hd)) (by rw [List.append_assoc]; exact hs) fun h' x2=>k h' (x1.trans x2)
theorem Ik {f:Fn} {b:Bool} {emb:α->PV} {xs:List α} {x:PV} {h:PH} {Q:PV->PH->Prop} {S:List Bool} (e:iI x h=some (xs.map emb)) (h1:xs.length < 64) (h3:nI (xs.map key)=true) (hs:∀ x∈xs,shape (key x)=S) (h4:(xs.map key).Nodup)
  (hf:∀ d∈xs,∀ h (Q:PV->PH->Prop),(∀ h',Ext h h'->Q (tP (key d)) h')->(f [emb d] h).W Q)
  (k:∀ (os:List α) h',Ext h h'->os.Perm xs->os.Pairwise (fun p q=>(if b then bM (key p) (key q) else bM (key q) (key p))=false)->Q (.ref h'.length) (h'++[.lst (os.map emb)])):(lH f b x h).W Q:=by
 unfold lH;rw [e];dsimp only;rw [if_pos (by simpa using h1)]
 refine Mq (key:=key) xs [] h hf (Mp h1 h3 h4) fun h' hx=>k _ h' hx ?_ ?_
 ·cases b with
  | false=>exact oH xs
  | true=>exact (List.reverse_perm _).trans (oH xs)
 ·have hp:=BO emb hs;cases b with
  | false=>exact hp
  | true=>
   show ((lI key xs).reverse).Pairwise _
   rw [List.pairwise_reverse];exact hp
end
section
variable {δ:Ev} {h:PH} {m:Me}
@[simp] theorem UT {f:Fn} {b:Bool}:sG f b m δ h=(m δ h).bind fun x h1=>lH f b x h1:=(rfl)
theorem FZ {n:Nat} {xs:List PV} (e:h[n]?=some (.lst xs)):iI (.ref n) h=some xs:=by simp [iI,aN,e]
theorem Ay {n:Nat} {kvs:List (PV×PV)} (e:cM h n=some kvs):jS h n=some (kvs.map (·.2)):=by
 unfold cM at e;split at e
 ·rename_i q; cases e; simp [jS,q]
 ·rename_i q; cases e; simp [jS,q]
 ·cases e
theorem gP {n:Nat} {kvs:List (PV×PV)} (e:cM h n=some kvs):∃ o,h[n]?=some o/\eD (.ref n) h=true/\∀ h',h'[n]?=some o->cM h' n=some kvs:=by
 unfold cM at e;split at e
 ·rename_i q; cases e; exact ⟨_,q,by simp [eD,q],fun h' e=>by simp [cM,e]⟩
 ·rename_i q; cases e; exact ⟨_,q,by simp [eD,q],fun h' e=>by simp [cM,e]⟩
 ·cases e
theorem gQ {h':PH} {n:Nat} {kvs:List (PV×PV)} (x:Ext h h') (e:cM h n=some kvs):cM h' n=some kvs:=by
 obtain ⟨o,g,_,k⟩:=gP e;exact k h' (x _ _ g)
theorem DL {n d:Nat} {kvs:List (PV×PV)} (e:h[n]?=some (.vw 1 d)) (e2:cM h d=some kvs):iI (.ref n) h=some (kvs.map (·.2)):=by
 have e1:aN h n=none:=by simp [aN,e]
 simp only [iI,e1,wW,e];exact Ay e2
theorem PR {d:Nat} {kvs:List (PV×PV)} (e:cM h d=some kvs):DE (.ref d) [] h=.ok (.ref h.length) (h++[.vw 1 d]):=by simp [DE,Ay e]
theorem Mr {n:Nat} {kvs:List (PV×PV)} {xs:List PV} {z:PV} (e:cM h n=some kvs) (hk:(PV.tup xs).ky 6=true) (hl:kvs.length < 16777216):uQ (.ref n) (.tup xs) z h=some (h.set n (.dD (dM kvs (.tup xs) z))):=by
 have k1:(PV.tup xs).isKt=true:=hk;have hl':kvs.length < aw:=by rw [pV]; exact hl
 unfold uQ;simp only [pQ,k1,if_true,e];rw [if_pos hl']
theorem Jx {n:Nat} {kvs:List (PV×PV)} {xs:List PV} (e:cM h n=some kvs) (hk:(PV.tup xs).ky 6=true):cT (.tup xs) (.ref n) h=.ok (.bl (!(aW kvs (.tup xs)).isSome)) h:=by
 have k1:(PV.tup xs).isKt=true:=hk;have:iF (.tup xs) (.ref n) h=some (aW kvs (.tup xs)):=by simp only [iF,k1,if_true,e,Option.map_some]
 unfold cT;rw [this]
theorem Jy {n:Nat} {kvs:List (Key×PV)} {x:Str} {z:PV} (e:h[n]?=some (.dK kvs)) (hl:kvs.length < 16777216):
  mK (.ref n) [.str x,z] h=match aW kvs (.inr x) with | some p=>.ok p h | none=>.ok z (h.set n (.dK (dM kvs (.inr x) z))):=by
 have hl':kvs.length < aw:=by rw [pV]; exact hl
 unfold mK;simp only [pQ,e];cases aW kvs (.inr x) with
 | some p=>rfl
 | none=>simp only [if_pos hl']
@[simp] theorem TQ {xs:List PV}:kT (.tup xs)=false:=(rfl)
@[simp] theorem TR:kT .non=true:=(rfl)
end
section
variable {δ:Ev} {h h1:PH} {js:List (Option Nat)} {tg:Mg} {elt:Me} {g:PH->Bool}
theorem Ext.setN {h hX:PH} {o:MO} {n:Nat} (x:Ext h hX) (hn:h.length<=n):Ext h (hX.set n o):=fun m o' e=>by
 have:=(ab.mp e).1;rw [bf (by omega)];exact x m o' e
theorem PU {α:Type} {mi:Mi} {ys:List α} {emb:α->PV} {Q:PV->PH->Prop} (f:α->PV) (e:mi δ h=.ok ⟨ys.map emb,g⟩ h1) (hg:∀ h,Ext h1 h->g h=true) (hz:ys.length<=16777216)
  (step:∀ y∈ys,∃ δ1,tg (emb y) (bT js δ)=some δ1/\∀ h,Ext h1 h->∀ Q:PV->PH->Prop,(∀ h',Ext h h'->Q (f y) h')->(elt δ1 h).W Q)
  (k:∀ l h',Ext h1 h'->h'[l]?=some (.lst (ys.map f))->Q (.ref l) h'):(aY js mi tg dJ elt δ h).W Q:=by
 unfold aY;rw [e,Rs.bind_ok];refine mJ (fun i h'=>Ext h1 h'/\h'[h1.length]?=some (.lst ((ys.take i).map f))) (ys.map emb) 0 _ ⟨Ext.app _ _,by simp⟩ (fun i x h' _ hx hi=>?_) (fun h' hi=>?_)
 ·obtain ⟨x1,g1⟩:=hi;have hx:(ys.map emb)[i]?=some x:=by simpa using hx
  rw [au] at hx;obtain ⟨y,hy,rfl⟩:=a7.mp hx;have hil:=(ab.mp hy).1;obtain ⟨δ1,ht,hs⟩:=step y (cg hy);have htk:ys.take (i+1)=ys.take i++[y]:=by rw [g9,hy]; rfl
  refine ⟨hg _ x1,δ1,ht,?_⟩;have hY:dJ δ1 h'=.ok true h':=rfl;rw [hY,iE,if_pos rfl];refine hs h' x1 _ fun h2 x2=>⟨_,x2 _ _ g1,?_,(x1.trans x2).setN (ai _),?_⟩
  ·rw [ae,d9]; omega
  ·rw [dR (x2 _ _ g1),htk,cz];rfl
 ·obtain ⟨x1,g1⟩:=hi;refine ⟨hg _ x1,k _ _ x1 ?_⟩;rw [Nat.zero_add,ae,iu] at g1;exact g1
theorem Az {n m:Nat} {xs ys:List PV} (e1:h[n]?=some (.lst xs)) (e2:h[m]?=some (.lst ys)) (c:xs.length+ys.length<=16777216):bK (.ref n) (.ref m) h=.ok (.ref h.length) (h++[.lst (xs++ys)]):=by
 show LF (.ref n) (.ref m) h=_
 simp [LF,dE,e1,e2,c]
end
end L2
namespace L2
open PySem PySem.Spec PyProof.Rows
def Wb (f:Str) (p:PV):List (Str×PV)->List (Str×PV)
 | []=>[(f,p)]
 | (g,x) :: r=>if g=f then (g,p) :: r else (g,x) :: Wb f p r
def Wc (x:PV) (h:PH):Option (Nat×Str×List (Str×PV)):=match x with
 | .ref n=>match h[n]? with
  | some (.ins c fs)=>some (n,c,fs)
  | _=>none
 | _=>none
def Wd (f:Str) (x y:PV) (h:PH):Option PH:=match Wc x h with
 | some (n,c,fs)=>if fs.length < 1000 then some (h.set n (.ins c (Wb f y fs))) else none
 | none=>none
section
variable {C:MC} {k:Nat} {X:Cx}
section
variable {e o value:Expr} {f:Str} {m mo mv:Me} {pos pos' tpos:Pos}
def Ya (f:Str) (mo mv:Me):Ms:=fun δ h=>(mv δ h).fl fun y h1=>(mo δ h1).fl fun x h2=>match Wd f x y h2 with
 | some h3=>.nx δ h3
 | none=>.bad
end
def We (cn:Str) (n:Nat) (f:Fn) (ms:Ma):Me:=fun δ h=>(ms δ h).bind fun ps h1=>if ps.length=n then (f (.ref h1.length :: ps) (h1++[.ins cn []])).bind fun v h2=>(match v with
 | .non=>.ok (.ref h1.length) h2
 | _=>.bad) else .bad
end
def qD (x y v:PV) (h:PH):Option PH:=match x,y with
 | .ref n,.int i=>match dE h n with
  | some xs=>match ixN xs.length i with
   | some j=>some (h.set n (.lst (xs.set j v)))
   | none=>none
  | none=>uQ x y v h
 | _,_=>uQ x y v h
def qE (mv mo mi:Me):Ms:=fun δ h=>(mv δ h).fl fun v h1=>(mo δ h1).fl fun x h2=>(mi δ h2).fl fun y h3=>match qD x y v h3 with
 | some h4=>.nx δ h4
 | none=>.bad
def Wg:List PV->PH->Rs PV:=fun xs h=>match xs with
 | [.bl b]=>.ok (.int (if b then 1 else 0)) h
 | [.int i]=>.ok (.int i) h
 | _=>.bad
section
variable {C:MC} {k:Nat} {X:Cx}
theorem G0 {φ:List Addr} {H:Hp} {h h':PH} {px py pv:PV} {x y v:V} (c:Cxt C k X) (rh:RH C φ H h) (rx:RV C φ H px x) (ry:RV C φ H py y) (rv:RV C φ H pv v) (e:qD px py pv h=some h') {pins:List (Addr×Obj)} {σ:St} {s:Shared} {xu yu vu:Value}
  {Q:Unit->Shared->Prop} (I:Inv X pins σ H s) (rxu:RelV x xu) (ryu:RelV y yu) (rvu:RelV v vu) (q:∀ s' H',Inv X pins σ H' s'->Kp H H'->RH C φ H' h'->Q () s'):wpAny (model X.prog X.w) X.A (setItem xu yu vu) Q X.xe s:=by
 unfold qD at e;split at e
 ·rename_i n i;split at e
  ·rename_i xs el;split at e
   ·rename_i j ej;cases e
    obtain ⟨a,rfl,ha⟩:=rx;cases ry
    obtain ⟨ws,hH,rw'⟩:=rh.at' n a _ ha (iS el);refine thn (set_list pins s σ H (.ref a) (.int i) v xu yu vu (fun H'=>H'=upd H a (.lst (ws.set j v))) I rxu ryu rvu ⟨a,ws,i,j,rfl,rfl,hH,by rw [<- rw'.length]; exact ej,rfl⟩) ?_;rintro _ s' ⟨H',I',rfl⟩;refine q s' _ I' (Kp.lst hH) (rh.write ha (by rw [hH]; trivial) ⟨_,bH,(RVs.set rv j rw').mono ax (Kp.lst hH)⟩)
   ·cases e
  ·exact Ar c rh rx ry rv e I rxu ryu rvu q
 ·exact Ar c rh rx ry rv e I rxu ryu rvu q
theorem xE {o i value:Expr} {pos pos':Pos} {mv mo mi:Me} (hv:SE C k X value mv) (ho:SE C k X o mo) (hi:SE C k X i mi) (hs:swapsWith value (some (.Subscript o i pos')) pos.line X.env=pure false:=by rfl):
  SSt C k X (.Assign [.Subscript o i pos'] value pos) (qE mv mo mi):=fun c pins s σ H D I ⟨φ,δ,h,rh,re,p⟩=>by
 refine wpAny_Assign_Subscript (thn (hv c pins s σ H _ I ⟨φ,δ,h,rh,re,post.fl p⟩) ?_) hs;rintro vu s1 ⟨v,H1,I1,rvu,φ1,pv,h1,p1,t1,rh1,rv1,q1⟩;refine thn (ho c pins s1 σ H1 _ I1 ⟨φ1,δ,h1,rh1,re.mono p1 t1,post.fl q1⟩) ?_;rintro xu s2 ⟨x,H2,I2,rxu,φ2,px,h2,p2,t2,rh2,rv2,q2⟩;refine thn (hi c pins s2 σ H2 _ I2 ⟨φ2,δ,h2,rh2,(re.mono p1 t1).mono p2 t2,post.fl q2⟩) ?_;rintro yu s3 ⟨y,H3,I3,ryu,φ3,py,h3,p3,t3,rh3,rv3,q3⟩;cases e:qD px py pv h3 with
 | none=>rw [e] at q3; exact q3.elim
 | some h4=>
  rw [e] at q3;exact G0 c rh3 (rv2.mono p3 t3) rv3 ((rv1.mono p2 t2).mono p3 t3) e I3 rxu ryu rvu fun s' H' I' kp rh'=>⟨σ,H',I',q3 φ3 σ H' ax kp rh' ((((re.mono p1 t1).mono p2 t2).mono p3 t3).mono ax kp)⟩
end
section
variable {δ:Ev} {h:PH} {m mo mv:Me} {E:FE}
@[simp] theorem Wh {cn:Str} {n:Nat} {f:Fn} {ms:Ma}:We cn n f ms δ h=(ms δ h).bind fun ps h1=>if ps.length=n then (f (.ref h1.length :: ps) (h1++[.ins cn []])).bind fun v h2=>(match v with | .non=>.ok (.ref h1.length) h2 | _=>.bad) else .bad:=(rfl)
@[simp] theorem XU {mi:Me}:(qE mv mo mi δ h).W E=(mv δ h).W fun v h1=>(mo δ h1).W fun x h2=>(mi δ h2).W fun y h3=>∃ h4,qD x y v h3=some h4/\E.nx δ h4:=by
 unfold qE;rw [Px]
 congr 1
 funext v h1
 rw [Px]
 congr 1
 funext x h2
 rw [Px]
 congr 1
 funext y h3
 cases e:qD x y v h3 <;> simp
theorem Jz {n:Nat} {xs:List PV} {i:Int} {v:PV} (e:h[n]?=some (.lst xs)) (h0:0<=i) (h1:i < xs.length):qD (.ref n) (.int i) v h=some (h.set n (.lst (xs.set i.toNat v))):=by
 have e1:dE h n=some xs:=by simp [dE,e]
 have e2:ixN xs.length i=some i.toNat:=by unfold ixN; rw [if_pos h0,if_pos h1]
 simp [qD,e1,e2]
@[simp] theorem Wi {b:Bool}:Wg [.bl b] h=.ok (.int (if b then 1 else 0)) h:=(rfl)
end
def AA:PV->PH->Rs PV:=fun x h=>match cX x h with
 | some xs=>.ok (.ref h.length) (h++[.lst xs.reverse])
 | none=>.bad
section
variable {h:PH}
theorem JA {n:Nat} {xs:List PV} (e:h[n]?=some (.lst xs)):AA (.ref n) h=.ok (.ref h.length) (h++[.lst xs.reverse]):=by simp [AA,cX,aN,e]
end
section
variable {C:MC} {k:Nat} {X:Cx} {e st:Expr} {me:Me} {pos p2:Pos}
theorem PY (he:SE C k X e me) (hs:SE C k X st (mUn LJ (mC (.int 1)))) (hsub:∀ a b:Addr,subscripted (.Slice none none (some st) p2) false (.ref a) (.ref b)=operate [.ref a,.ref b] (getItem (.ref a) (.ref b)):=by intro _ _; with_unfolding_all rfl):SE C k X (.Subscript e (.Slice none none (some st) p2) pos) (mUn AA me):=fun c pins s σ H Q I h=>by
 obtain ⟨φ,δ,h,rh,re,po⟩:=h;refine Subscript_ (thn (he c pins s σ H (fun v H1=>∃ δ φ1 h1 px,RH C φ1 H1 h1/\RE C φ1 H1 δ σ/\RV C φ1 H1 px v/\post C φ1 H1 (AA px h1) Q) I ⟨φ,δ,h,rh,re,(post.bind po).imp ?_⟩) fun v s1 hh=>?_)
 ·rintro v H1 ⟨φ1,x,h1,p1,t1,rh1,rv1,q1⟩;exact ⟨δ,φ1,h1,x,rh1,re.mono p1 t1,rv1,q1⟩
 obtain ⟨x,H1,I1,r1,δ1,φ1,h1,px,rh1,re1,rv1,q1⟩:=hh;refine wpAny_Slice ?_;rw [evalPart_none];refine ag (ag ?_);rw [evalPart_some];refine thn (hs c pins s1 σ H1 (fun v H2=>v=.int (-1)/\∃ φ2,φ1<+:φ2/\Kp H1 H2/\RH C φ2 H2 h1) I1 ⟨φ1,δ1,h1,rh1,re1,?_⟩) fun vk s2 hh=>?_
 ·intro φ' v H' a b c' d;exact ⟨d,φ',a,b,c'⟩
 obtain ⟨y,H2,I2,r2,rfl,φ2,p12,t12,rh2⟩:=hh;obtain ⟨tk,rfl⟩:=r2;unfold AA at q1;cases es:cX px h1 with
 | none=>rw [es] at q1; exact q1.elim
 | some xs=>
  rw [es] at q1;obtain ⟨a,ws,rfl,sa,ra⟩:=dN rh2 (rv1.mono p12 t12) es;cases r1
  have I4:Inv X pins σ H2 { s2 with heap:=s2.heap.push { cls:=.type "slice",data:=.fields #[.none,.none,.int (-1) tk] } }:=I2.kept (t':=s2.toks) fun b ob q=>ah _ q;have sa':SqL X.K H2 a ws:=by rw [c.K]; exact sa
  obtain ⟨its,rw',pl,hz⟩:=I4.list sa';have hlen:=rw'.length;have hg:wpAny (model X.prog X.w) X.A (getItem (.ref a) (.ref s2.heap.objs.size)) (EP X pins σ Q) X.xe { s2 with heap:=s2.heap.push { cls:=.type "slice",data:=.fields #[.none,.none,.int (-1) tk] } }:=by
   refine wpAny_getItem_list_slice pl.isList (Heap.IsSliceOf.new ..) .none .none (.int (-1) tk) (by decide) ?_ (by rw [ar] <;> omega);rw [PySem.W.krv_pick];have hr:∀ {vs:List V} {us:List Value},aM vs us->aM vs.reverse us.reverse:=by
    intro vs us r
    induction r with
    | nil=>exact .nil
    | cons a t ih=>simp only [List.reverse_cons]; exact aM.append ih (.cons a .nil)
   refine ⟨.ref _,_,I4.laid (t':=s2.toks) (o:=.lst ws.reverse) (fun b ob q=>ah _ q) (ai _) ⟨by rw [List.length_reverse]; exact hz,its.reverse,0,hr rw',?_⟩,rfl,(post.weak p12 t12 q1).lnew rh2 ra.reverse (I4.hok.fresh (ai _))⟩;have e:its.toArray.toList.reverse.toArray=its.reverse.toArray:=by simp
   rw [e];exact a8 _ rfl
  exact tail_any (ops:=[.ref a,.ref s2.heap.objs.size]) pl.isList.typeIs slot_list_getitem.lookup hg (hsub _ _)
end
def xF:List Int->Int
 | []=>0
 | [x]=>x
 | x :: y :: r=>max x (xF (y :: r))
def kJ:List Int->Int
 | []=>0
 | [x]=>x
 | x :: y :: r=>min x (kJ (y :: r))
theorem DM:∀ {ns:List Int},ns≠[]->xF ns∈ns/\∀ a∈ns,a<=xF ns
 | [],h=>(h rfl).elim
 | [x],_=>⟨by simp [xF],by simp [xF]⟩
 | x :: y :: r,_=>by
  obtain ⟨h1,h2⟩:=DM (ns:=y :: r) (by simp);unfold xF;refine ⟨?_,fun a ha=>?_⟩
  ·rcases Int.le_total x (xF (y :: r)) with z | z
   ·rw [Int.max_eq_right z]; exact ao _ h1
   ·rw [Int.max_eq_left z]; exact aj
  ·rcases bc.mp ha with rfl | ha
   ·exact Int.le_max_left _ _
   ·exact Int.le_trans (h2 a ha) (Int.le_max_right _ _)
theorem qF:∀ {ns:List Int},ns≠[]->kJ ns∈ns/\∀ a∈ns,kJ ns<=a
 | [],h=>(h rfl).elim
 | [x],_=>⟨by simp [kJ],by simp [kJ]⟩
 | x :: y :: r,_=>by
  obtain ⟨h1,h2⟩:=qF (ns:=y :: r) (by simp);unfold kJ;refine ⟨?_,fun a ha=>?_⟩
  ·rcases Int.le_total x (kJ (y :: r)) with z | z
   ·rw [Int.min_eq_left z]; exact aj
   ·rw [Int.min_eq_right z]; exact ao _ h1
  ·rcases bc.mp ha with rfl | ha
   ·exact Int.min_le_left _ _
   ·exact Int.le_trans (Int.min_le_right _ _) (h2 a ha)
def qG:List PV->PH->Rs PV:=fun xs h=>match xs with
 | [.ref n]=>match aN h n with
  | some ys=>match tW ys with
   | some (a :: ns)=>.ok (.int (xF (a :: ns))) h
   | _=>.bad
  | none=>.bad
 | _=>Pq xs h
def AB:List PV->PH->Rs PV:=fun xs h=>match xs with
 | [.ref n]=>match aN h n with
  | some ys=>match tW ys with
   | some (a :: ns)=>.ok (.int (kJ (a :: ns))) h
   | _=>.bad
  | none=>.bad
 | _=>Pu xs h
section
variable {C:MC} {k:Nat} {X:Cx}
theorem JB (c:Cxt C k X):bS X (.builtin "max") (fun xs H Q=>∃ (p:Addr) (ns:List Int),xs=[.ref p]/\SqL C.K H p (ns.map V.int)/\ns≠[]/\Q (.int (xF ns)) H):=by
 intro pins s σ H xs us Q I r h;obtain ⟨p,ns,rfl,hq,hne,q⟩:=h;obtain ⟨u,rfl,ru⟩:=vals1 r;cases ru
 rw [<- c.K] at hq;obtain ⟨its,rv,pl,hz⟩:=I.list hq;have hi:IntsAre its ns:=intsAre_of rv;obtain ⟨ys,hy⟩:=hi.allInts.items;have hl:=pl.isList;have hns:ns=ys.toList.map (·.1):=by rw [<- hi.numsOf,<- nums_intItems,<- hy]
 have hsz:0 < ys.size:=by
  have h3:0 < ns.length:=kg.mpr hne;rw [hns,ae,dz] at h3; exact h3
 rw [hy] at hl;refine max_intList (I.ok.hd c.calm) hl hsz fun v h' tk hv hk=>?_;obtain ⟨t,rfl⟩:=intItems_at hv;obtain ⟨h1,h2⟩:=argBest_gt (numAt ys) (ys.size - 1);have hM:numAt ys (argBest (fun i j=>decide (numAt ys i > numAt ys j)) (ys.size - 1))=xF ns:=by
  obtain ⟨m1,m2⟩:=DM hne;refine Int.le_antisymm (m2 _ ?_) ?_
  ·rw [hns,numAt_eq]; exact getD_mem (by rw [ae,dz]; omega)
  ·have ha:=m1;rw [hns] at ha;obtain ⟨j,hj,ej⟩:=mem_getD ha;rw [ae,dz] at hj;rw [<- hns] at ej;rw [<- ej,hns,<- numAt_eq];exact h2 j (by omega)
 rw [hM];exact ⟨.int (xF ns),H,I.kept (t':=tk) hk,⟨_,rfl⟩,q⟩
theorem JC (c:Cxt C k X):bS X (.builtin "min") (fun xs H Q=>∃ (p:Addr) (ns:List Int),xs=[.ref p]/\SqL C.K H p (ns.map V.int)/\ns≠[]/\Q (.int (kJ ns)) H):=by
 intro pins s σ H xs us Q I r h;obtain ⟨p,ns,rfl,hq,hne,q⟩:=h;obtain ⟨u,rfl,ru⟩:=vals1 r;cases ru
 rw [<- c.K] at hq;obtain ⟨its,rv,pl,hz⟩:=I.list hq;have hi:IntsAre its ns:=intsAre_of rv;obtain ⟨ys,hy⟩:=hi.allInts.items;have hl:=pl.isList;have hns:ns=ys.toList.map (·.1):=by rw [<- hi.numsOf,<- nums_intItems,<- hy]
 have hsz:0 < ys.size:=by
  have h3:0 < ns.length:=kg.mpr hne;rw [hns,ae,dz] at h3; exact h3
 rw [hy] at hl;refine min_intList (I.ok.hd c.calm) hl hsz fun v h' tk hv hk=>?_;obtain ⟨t,rfl⟩:=intItems_at hv;obtain ⟨h1,h2⟩:=argBest_lt (numAt ys) (ys.size - 1);have hM:numAt ys (argBest (fun i j=>decide (numAt ys i < numAt ys j)) (ys.size - 1))=kJ ns:=by
  obtain ⟨m1,m2⟩:=qF hne;refine Int.le_antisymm ?_ (m2 _ ?_)
  ·have ha:=m1;rw [hns] at ha;obtain ⟨j,hj,ej⟩:=mem_getD ha;rw [ae,dz] at hj;rw [<- hns] at ej;rw [<- ej,hns,<- numAt_eq];exact h2 j (by omega)
  ·rw [hns,numAt_eq]; exact getD_mem (by rw [ae,dz]; omega)
 rw [hM];exact ⟨.int (kJ ns),H,I.kept (t':=tk) hk,⟨_,rfl⟩,q⟩
theorem G1:hV C k X (.builtin "max") qG:=fun c=>bS.imp (bS.or (VG c) (JB c)) fun vs H Q h=>by
 obtain ⟨φ,h,ps,rh,rv,po⟩:=h;unfold qG at po;split at po
 ·rename_i n;split at po
  ·rename_i ys e;split at po
   ·rename_i a ns en;obtain ⟨v,rfl,rx⟩:=rv.one;obtain ⟨p,rfl,hp⟩:=rx;obtain ⟨p2,ws,hp2,sp,rp⟩:=bN rh e;rw [hp] at hp2; cases hp2;have ew:=vA rp en;subst ew;exact .inr ⟨p,a :: ns,rfl,sp,by simp,po.val rh rfl⟩
   ·exact po.elim
  ·exact po.elim
 ·exact .inl ⟨φ,h,_,rh,rv,po⟩
theorem TU:hV C k X (.builtin "min") AB:=fun c=>bS.imp (bS.or (VJ c) (JC c)) fun vs H Q h=>by
 obtain ⟨φ,h,ps,rh,rv,po⟩:=h;unfold AB at po;split at po
 ·rename_i n;split at po
  ·rename_i ys e;split at po
   ·rename_i a ns en;obtain ⟨v,rfl,rx⟩:=rv.one;obtain ⟨p,rfl,hp⟩:=rx;obtain ⟨p2,ws,hp2,sp,rp⟩:=bN rh e;rw [hp] at hp2; cases hp2;have ew:=vA rp en;subst ew;exact .inr ⟨p,a :: ns,rfl,sp,by simp,po.val rh rfl⟩
   ·exact po.elim
  ·exact po.elim
 ·exact .inl ⟨φ,h,_,rh,rv,po⟩
end
section
variable {h:PH}
theorem JD {n:Nat} {a:Int} {ns:List Int} (e:h[n]?=some (.lst ((a :: ns).map PV.int))):AB [.ref n] h=.ok (.int (kJ (a :: ns))) h:=by
 have e1:aN h n=some ((a :: ns).map PV.int):=by simp [aN,e]
 simp only [AB,e1,Ap]
@[simp] theorem UU {i j:Int}:qG [.int i,.int j] h=.ok (.int (if j > i then j else i)) h:=(rfl)
@[simp] theorem UV {i j:Int}:AB [.int i,.int j] h=.ok (.int (if j < i then j else i)) h:=(rfl)
end
theorem BP:typeLookup (.type "list") "keys" = pure none:=by rw [typeLookup_type,builtinLookup_eq_fast]; kernel_rfl
theorem BQ {prog:Program} {w:World} {A:Around} {E:Value->Shared->Prop} {s:Shared} {a:Addr} {o:Obj} {xs:Array Value} {k:Nat} {Q:Option Value->Shared->Prop}
  (hx:s.heap.get? a=some o) (hc:o.cls=.type "list") (hdat:o.data=.seq xs k) (hd:o.dict=none) (hA:A.handled=none)
  (h:∀ h' tk,(∀ b u,s.heap.get? b=some u->h'.get? b=some u)->Q none { s with heap:=h',toks:=tk }):wpAny (model prog w) A (getAttr? (.ref a) "keys") Q E s:=by
 obtain ⟨c,dct,dat,sl⟩:=o;simp only at hc hdat hd;subst hc hdat hd;obtain ⟨hp,g,d,tk,os⟩:=s;have hT:∀ tk',(⟨hp,g,d,tk',os⟩:Shared).TypeIs (.ref a) "list" := fun _=>⟨_,hx,rfl⟩;have f1:=sub_AttributeError;have f3:=F.slot_list_getattribute.lookup;have f4:=F.slot_list_getattribute.bind (.ref a);have f5:=am_list_getattr_none;unfold getAttr? getAttrBy? getAttrBy
 repeat (any_goals (first | assumption | exact hT _ | ((with_reducible show wpAny _ _ (call (Value.builtin "list.__getattribute__") _ _) _ _ _); refine call_meets F.slot_list_getattribute (hT _) am_entry_list_getattribute (F.args_list_getattribute_2 _ _) (meets_getattribute_miss_list a xs k sl "keys" _ BP (by decide) (by size_fits)) ⟨hx,hA,fun h' tk' e hx'=>?_⟩) | wp_step))
 obtain ⟨t',u',he⟩:=hx'.there
 show wpAny _ _ (getattributeRaised _ _ _ _ _ _ _) _ _ _
 unfold getattributeRaised
 repeat (any_goals (first | assumption | wp_step))
 exact h _ _ hx'.of.keeps
section
variable {prog:Program} {w:World} {K:Type} [DecidableEq K] {knd:HeapKind prog w K} {A:Around} {R:Result->Shared->Prop}
def DN (xs:List (K×Addr×Value)) (ps:List (Addr×K×Addr×Value)):List (K×Addr×Value):=ps.foldl (fun acc p=>storedH acc p.2.1 p.2.2.1 p.2.2.2) xs
theorem uC (xs:List (K×Addr×Value)) (k:K) (a:Addr) (v:Value):(storedH xs k a v).length<=xs.length+1:=by
 unfold storedH;split
 ·rw [ae]; omega
 ·simp
theorem DO {xs:List (K×Addr×Value)} {k:K} {a:Addr} {v:Value} {x:K×Addr×Value} (h:x∈storedH xs k a v):(∃ y∈xs,x.1=y.1/\x.2.1=y.2.1)\/(x.1=k/\x.2.1=a):=by
 unfold storedH at h;split at h
 ·obtain ⟨y,hy,rfl⟩:=aq.mp h;refine .inl ⟨y,hy,?_,?_⟩
  ·unfold putAt; split <;> rfl
  ·unfold putAt; split <;> rfl
 ·rcases bj.mp h with h | h
  ·exact .inl ⟨x,h,rfl,rfl⟩
  ·rw [bu.mp h]; exact .inr ⟨rfl,rfl⟩
theorem DP {I d:Addr} {fp wr:List Addr} {n:Nat} {P:Nat->Value->Prop} {St:Nat->Heap->Prop} (W:Walks prog w A.in1 I fp wr n P St) (hd:d∉fp) (hu:knd.room A.in1) (ps:List (Addr×K×Addr×Value)) (hn:ps.length=n)
  (hP:∀ i v,P i v->∃ p,ps[i]?=some p/\v=.ref p.1) (h0:Heap) (hw0:∀ b u,h0.get? b=some u->b∉wr/\b≠d)
  (hk:∀ h',(∀ b u,h0.get? b=some u->h'.get? b=some u)->∀ p∈ps,knd.is h' p.2.1 p.2.2.1/\IsTup h' p.1 #[.ref p.2.2.1,p.2.2.2]) (res:Value):
  ∀ (m i:Nat) (s:Shared) (xs:List (K×Addr×Value)),n - i=m->i<=n->St i s.heap->s.heap.DictOfH knd d xs->(∀ x∈xs,∃ p∈ps,x.1=p.2.1/\x.2.1=p.2.2.1)->xs.length+n<=aw+i->(∀ b u,h0.get? b=some u->s.heap.get? b=some u)->
  (∀ h' tk,h'.DictOfH knd d (DN xs (ps.drop i))->(∀ b u,h0.get? b=some u->h'.get? b=some u)->R (.ok (.ret res)) { s with heap:=h',toks:=tk })->
  codeAny (model prog w) A (.builtin "dict.update.loop" ⟨[.ref d,.ref I,rawInt i,res],[]⟩) R s:=by
 have hdw:d∉wr:=fun h=>hd (W.sub _ h);intro m
 induction m with
 | zero=>
  intro i s xs hm hi hst hdt hxs hz hit hR;have hin:i=n:=by omega
  subst hin;refine k0 eZ ?_;rw [iw bW _]
  show wpAny _ A.in1 (pyNext (.ref I) >>= _) _ _ s
  refine aa (W.done s _ _ hst fun h' tk hk'=>?_)
  show wpAny _ A.in1 (Builtin.Dict.addKeywords d [] >>= _) _ _ _
  have h00:∀ b u,h0.get? b=some u->h'.get? b=some u:=fun b u e=>hk' b u (hw0 b u e).1 (hit b u e);have hfin:=hR h' tk (by
   rw [List.drop_of_length_le (by omega)];obtain ⟨o,es,ep,h1,h2,h3,h4,h5,h6⟩:=hdt;refine ⟨o,es,ep,hk' d _ hdw h1,h2,h3,h4,fun x hx=>?_,h6⟩;obtain ⟨p,hp,e1,e2⟩:=hxs x hx;rw [e1,e2];exact (hk h' h00 p hp).1) h00
  exact aa (ag (ag hfin))
 | succ m ih=>
  intro i s xs hm hi hst hdt hxs hz hit hR;have hlt:i < n:=by omega
  refine k0 eZ ?_;rw [iw bW _]
  show wpAny _ A.in1 (pyNext (.ref I) >>= _) _ _ s
  refine aa (W.item i s _ _ hlt hst fun v h' tk hPv hst' hk'=>?_);obtain ⟨p,hp,rfl⟩:=hP i v hPv;have hpm:=cg hp;have h00:∀ b u,h0.get? b=some u->h'.get? b=some u:=fun b u e=>hk' b u (hw0 b u e).1 (hit b u e);obtain ⟨hki,ob,hb1',hb2,nn,hb3⟩:=hk h' h00 p hpm;have hTy:({ s with heap:=h',toks:=tk }:Shared).TypeIs (.ref p.1) "tuple" := ⟨ob,hb1',hb2⟩;have hdt':h'.DictOfH knd d xs:=by
   obtain ⟨o,es,ep,h1,h2,h3,h4,h5,h6⟩:=hdt;refine ⟨o,es,ep,hk' d _ hdw h1,h2,h3,h4,fun x hx=>?_,h6⟩;obtain ⟨p,hp,e1,e2⟩:=hxs x hx;rw [e1,e2];exact (hk h' h00 p hp).1
  refine aa (dg (aa (l0 ?_)));unfold Builtin.Dict.pairItems;refine aa (mj hTy ?_);rw [if_pos (by decide)];refine aa (wpAny_seqItems hb1' hb3 (ag ?_))
  show wpAny _ _ (holding [.ref p.2.2.1,p.2.2.2] (dictSet d (.ref p.2.2.1) p.2.2.2)) _ _ _
  refine dg (wpAny_dictSet_heap (hsz:=by omega) hu hki hdt' fun h2 hd2 hs2=>?_);refine ag ⟨ka bW _,?_⟩;have st2:St (i+1) h2:=W.frame (i+1) h' h2 hst' fun b hb o e=>(hs2.2 b (fun z=>hd (z ▸ hb))).trans e;refine ih (i+1) _ (storedH xs p.2.1 p.2.2.1 p.2.2.2) (by omega) hlt st2 hd2 (fun x hx=>?_) ?_ (fun b u e=>(hs2.2 b (hw0 b u e).2).trans (h00 b u e)) fun h3 tk3 hd3 hk3=>?_
  ·rcases DO hx with ⟨y,hy,e1,e2⟩ | ⟨e1,e2⟩
   ·rw [e1,e2]; exact hxs y hy
   ·exact ⟨p,hpm,e1,e2⟩
  ·have:=uC xs p.2.1 p.2.2.1 p.2.2.2;omega
  ·refine hR h3 tk3 ?_ hk3;have hdr:ps.drop i=p :: ps.drop (i+1):=by
    obtain ⟨hl,e⟩:=ab.mp hp;rw [jo hl,e]
   rw [hdr];exact hd3
theorem uR {E:Value->Shared->Prop} {s:Shared} {a:Addr} {o:Obj} {k:Nat} {ps:List (Addr×K×Addr×Value)} {Q:Value->Shared->Prop} (hA:A.handled=none) (hu:knd.room A.in1.in1) (hx:s.heap.get? a=some o) (hc:o.cls=.type "list") (hdat:o.data=.seq (ps.map fun p=>dm p.1).toArray k) (hd:o.dict=none)
  (hk:∀ h',(∀ b u,s.heap.get? b=some u->h'.get? b=some u)->∀ p∈ps,knd.is h' p.2.1 p.2.2.1/\IsTup h' p.1 #[.ref p.2.2.1,p.2.2.2]) (hz:ps.length<=aw)
  (h:∀ h' tk,h'.DictOfH knd s.heap.objs.size (DN [] ps)->(∀ b u,s.heap.get? b=some u->h'.get? b=some u)->Q (.ref s.heap.objs.size) { s with heap:=h',toks:=tk }):
  wpAny (model prog w) A (call (.type "dict") [.ref a]) Q E s:=by
 refine callType_codes (Q₁:=fun obj s₁=>obj=.ref s.heap.objs.size/\s₁={ s with heap:=s.heap.push { cls:=.type "dict",data:=.dict #[] } }) F.kt_called_dict (F.kt_typeCall_dict_1 _) F.entry_dict_init (kt_code_dict_new _ ⟨rfl,rfl⟩) ?_;rintro obj s₁ ⟨rfl,rfl⟩;have hnew:(s.heap.push { cls:=.type "dict",data:=.dict #[] }).DictOfH knd s.heap.objs.size []:=Heap.DictOfH.new s.heap;have up:∀ b u,s.heap.get? b=some u->(s.heap.push { cls:=.type "dict",data:=.dict #[] }).get? b=some u:=fun b u e=>ah _ e;have hTa:({ s with heap:=s.heap.push { cls:=.type "dict",data:=.dict #[] } }:Shared).TypeIs (.ref a) "list" := ⟨o,up _ _ hx,hc⟩;refine ⟨hnew.typeIs,F.args_dict_init_2 _ _,?_⟩;unfold Builtin.«dict.__init__»;refine aa ?_; unfold Builtin.Dict.selfAndRest;refine aa (jh hnew.typeIs (show wpAny _ _ (pure (s.heap.objs.size,[dm a])) _ _ _ from ag ?_))
 show wpAny _ _ (kc "dict.__init__" s.heap.objs.size (.ref a) [] .none) _ _ _
 unfold kc;refine aa (mj hTa ?_);rw [if_pos (by decide)];refine aa (BQ (up _ _ hx) hc hdat hd hA fun h1 tk1 kp1=>?_);rw [if_pos (by rfl)];refine aa (jt ?_);have ha1:h1.IsList a (ps.map fun p=>dm p.1).toArray:=⟨o,kp1 _ _ (up _ _ hx),hc,k,hdat⟩;refine aa (k8 (s:={ s with heap:=h1,toks:=tk1 }) ha1 (ag ⟨ka bW _,?_⟩));have lt0:s.heap.objs.size < h1.objs.size:=by
  have:=kp1 s.heap.objs.size _ (a8 s.heap rfl);exact az this
 have hlt:∀ b u,s.heap.get? b=some u->b < s.heap.objs.size:=fun b u e=>az e;have ha0:=hlt _ _ hx;refine DP (knd:=knd) (fp:=[h1.objs.size,a]) (wr:=[h1.objs.size]) (n:=(ps.map fun p=>dm p.1).toArray.size) (Walks.list (A:=A.in1.in1) hA h1.objs.size a (a9 (mn ha0 lt0)) (ps.map fun p=>dm p.1).toArray) ?_ hu ps (by simp) (fun i v e=>?_) s.heap (fun b u e=>?_) hk .none _ 0 _ [] (Nat.sub_zero _) (b9 _) ?_ ?_ (fun x hx=>nomatch hx) (by simpa using hz) (fun b u e=>?_) fun h' tk dd kk=>?_
 ·intro z;rcases bc.mp z with z | z
  ·exact a9 lt0 z
  ·exact a9 ha0 (bu.mp z).symm
 ·have e':(ps.map fun p=>dm p.1)[i]?=some v:=by simpa using e
  rw [au] at e';obtain ⟨p,hp,rfl⟩:=a7.mp e';exact ⟨p,hp,rfl⟩
 ·have h0:=hlt _ _ e;exact ⟨fun z=>a9 (mn h0 lt0) (bu.mp z),a9 h0⟩
 ·refine ⟨⟨_,a8 _ rfl,rfl,rfl⟩,?_⟩;obtain ⟨ob,e,r⟩:=ha1;exact ⟨ob,ah _ e,r⟩
 ·obtain ⟨oo,es,ep,e,r1,r2,r3,r4,r5⟩:=hnew;exact ⟨oo,es,ep,ah _ (kp1 _ _ e),r1,r2,r3,(fun x hx=>nomatch hx),r5⟩
 ·exact ah _ (kp1 _ _ (up _ _ e))
 ·exact ⟨rfl,h h' tk (by simpa using dd) kk⟩
end
section
variable {C:MC} {k:Nat} {X:Cx} {φ:List Addr} {H:Hp} {pins:List (Addr×Obj)} {σ:St} {s:Shared}
def xG:List PV->Option (List (PV×PV))
 | []=>some []
 | .tup [y,v] :: r=>if y.isKt=true then (xG r).map ((y,v) :: ·) else none
 | _=>none
def Mt (kvs more:List (PV×PV)):List (PV×PV):=more.foldl (fun acc kv=>dM acc kv.1 kv.2) kvs
theorem AC {h h':Heap} (kp:∀ b u,h.get? b=some u->h'.get? b=some u) (a:Addr) (x:Array Value):IsTup h a x->IsTup h' a x:=fun ⟨o,e,r⟩=>⟨o,kp _ _ e,r⟩
theorem xH (I:Inv X pins σ H s) (hK:X.K=C.K):∀ {ps:List PV} {rs:List (PV×PV)} {vs:List V} {us:List Value},xG ps=some rs->RVs C φ H ps vs->aM vs us->
  ∃ qs:List (Addr×PV×Addr×Value),us=qs.map (fun q=>dm q.1)/\(∀ h',(∀ b u,s.heap.get? b=some u->h'.get? b=some u)->∀ q∈qs,(kQ X.prog X.w).is h' q.2.1 q.2.2.1/\IsTup h' q.1 #[.ref q.2.2.1,q.2.2.2])/\
   ∀ {kvs:List (PV×PV)} {ks:List (PV×Addr×V)} {xs:List (PV×Addr×Value)},RKd C φ H kvs ks->wN ks xs->∃ ks',RKd C φ H (Mt kvs rs) ks'/\wN ks' (DN xs qs)
 | [],rs,[],us,e,_,ru=>by
  cases ru
  cases e
  exact ⟨[],rfl,(fun _ _ _ h=>nomatch h),fun r rx=>⟨_,r,rx⟩⟩
 | p :: ps,rs,v :: vs,us,e,r,ru=>by
  cases ru with
  | @cons _ u _ us' h t=>
   cases p with
   | tup xs=>
    match xs,e with
    | [y,z],e=>
     unfold xG at e;split at e
     ·rename_i hk;cases e2:xG ps with
      | none=>rw [e2] at e; cases e
      | some rs'=>
       rw [e2] at e;cases e
       obtain ⟨qs,rfl,a1,a2⟩:=xH I hK e2 r.2 t;obtain ⟨b,bs,rfl,sq,rb⟩:=r.1;cases h
       obtain ⟨yv,zv,rfl,ry,rz⟩:=rb.two;rw [<- hK] at sq;obtain ⟨its,rits,pt,_⟩:=I.tuple sq;obtain ⟨yu,zu,rfl,ryu,rzu⟩:=vals2 rits;obtain ⟨c,rfl⟩:=jR hk ry;cases ryu
       have hki:=tY I hK hk ry;refine ⟨(b,y,c,zu) :: qs,rfl,?_,fun {kvs ks xs} r' rx'=>?_⟩
       ·intro h' kp q hq;rcases bc.mp hq with rfl | hq
        ·exact ⟨⟨hki.1,HR.keep (AC kp) hki.2⟩,AC kp _ _ pt⟩
        ·exact a1 h' kp q hq
       ·obtain ⟨ks',r1,r2⟩:=HD.put (a:=b) r' rx' (pW hk) ry rz rzu;exact a2 r1 r2
     ·cases e
    | [],e=>cases e
    | [_],e=>cases e
    | _ :: _ :: _ :: _,e=>cases e
   | _=>cases e
 | [],_,_ :: _,_,_,r,_=>r.elim
 | _ :: _,_,[],_,_,r,_=>r.elim
def BR:List PV->PH->Rs PV:=fun xs h=>match xs with
 | [.ref n]=>match h[n]? with
  | some (.lst ps)=>match xG ps with
   | some rs=>.ok (.ref h.length) (h++[.dD (Mt [] rs)])
   | none=>.bad
  | _=>wR xs h
 | _=>wR xs h
theorem AD {K:Type} [DecidableEq K]:∀ (ps:List (Addr×K×Addr×Value)) (xs:List (K×Addr×Value)),(DN xs ps).length<=xs.length+ps.length
 | [],xs=>ai _
 | p :: ps,xs=>by
  have:=AD ps (storedH xs p.2.1 p.2.2.1 p.2.2.2);have h2:=uC xs p.2.1 p.2.2.1 p.2.2.2
  show (DN (storedH xs p.2.1 p.2.2.1 p.2.2.2) ps).length<=_
  rw [da];omega
theorem PZ:hV C k X (.type "dict") BR:=fun c pins s σ H xs us Q I r h=>by
 obtain ⟨φ,h,ps,rh,rv,po⟩:=h;unfold BR at po;split at po
 ·rename_i n;split at po
  ·rename_i ls hk;split at po
   ·rename_i rs e;obtain ⟨v,rfl,rx⟩:=rv.one;obtain ⟨a,rfl,ha⟩:=rx;obtain ⟨u,rfl,ru⟩:=vals1 r;cases ru
    obtain ⟨vs,hH,rvs⟩:=rh.at' n a _ ha hk;obtain ⟨hz,its,m,rits,hl,hx⟩:=I.lstM hH;obtain ⟨qs,rfl,a1,a2⟩:=xH I c.K e rvs rits;have hq:qs.length<=aw:=by
     rw [ae] at hl;omega
    have rm:(kQ X.prog X.w).room X.A.in1.in1:=by
     have:=c.hu64
     show X.A.units+1+1+6 < cLine
     omega
    refine uR (knd:=kQ X.prog X.w) (I.ok.hd c.calm) rm hx rfl rfl rfl a1 hq fun h' tk dd kk=>?_;obtain ⟨ks',r1,r2⟩:=a2 (.nil:RKd C φ H [] []) (.nil:wN [] []);have fr:H s.heap.objs.size=none:=I.fresh;obtain ⟨o,es,ep,hq1,h2,h3,h4,h5',h5⟩:=dd;have hl2:ks'.length<=aw:=by
     have e1:=ee r2;have e2:=AD qs ([]:List (PV×Addr×Value));simp at e2;omega
    refine ⟨.ref s.heap.objs.size,_,I.laid (a:=s.heap.objs.size) (o:=dDO C.w s.heap.objs.size ks') (t':=tk) kk (ai _) ⟨⟨hl2,beq_eq_false_iff_ne.mpr (j5 (a9 I.big)),_,r2,o,es,ep,hq1,h2,h3,?_,h5⟩,⟨o,hq1⟩,?_⟩,rfl,?_⟩
    ·rw [h4,<- c.w]; rfl
    ·rintro g1 g2 ⟨z1,z2,ws,z3,o',es',ep',z4,z5⟩ keep;exact ⟨z1,z2,ws,z3,o',es',ep',keep _ z4,z5⟩
    ·exact po (φ++[s.heap.objs.size]) (.ref _) _ (c7 _ _) (Kp.new fr) (rh.new fr ⟨_,bH,RKd.mono (c7 _ _) (Kp.new fr) r1⟩) ⟨_,rfl,by rw [<- rh.len]; simp⟩
   ·exact po.elim
  ·exact Md c pins s σ H xs us Q I r ⟨φ,h,_,rh,rv,po⟩
 ·exact Md c pins s σ H xs us Q I r ⟨φ,h,_,rh,rv,po⟩
end
end L2
namespace L2
open PySem PySem.Spec PyProof.Rows PySem.SeqAt
open PySem.AutoSeq1 (wpAny_loadPart')
open PySem.MeetsSeq PySem.MeetsSeq2 PySem.MeetsSeq3
section
variable {C:MC} {k:Nat} {X:Cx}
def Wj:PV->PV->PH->Rs PV:=fun x y h=>match x,y with
 | .tup xs,.tup ys=>ofB ((M3 (.tup xs) (.tup ys)).map (!·)) h
 | x,y=>vGe x y h
variable {h:PH}
@[simp] theorem Wl {i j:Int}:Wj (.int i) (.int j) h=.ok (.bl (decide (j<=i))) h:=(rfl)
@[simp] theorem Wm {i j:Str}:Wj (.str i) (.str j) h=.ok (.bl (!decide (i.cps.toList < j.cps.toList))) h:=(rfl)
end
end L2
namespace L2
open PySem PySem.Spec PyProof.Rows
section
variable {C:MC} {k:Nat} {X:Cx} {ke ve:Expr} {mk mv:Me} {pos:Pos}
def putD (x y:PV) (n:Nat) (h:PH):Rs PV:=if x.isKt=true then (match cM h n with
 | some kvs=>if kvs.length < aw then .ok (.ref n) (h.set n (.dD (dM kvs x y))) else .bad
 | none=>.bad) else .bad
def TV (mk mv:Me):Me:=fun δ h=>(mk δ (h++[.dK []])).bind fun x h2=>(mv δ h2).bind fun y h3=>putD x y h.length h3
end
section
theorem Q1 {h:PH} {n:Nat} {kvs:List (Key×PV)} {x:Str} {z:PV} (e:h[n]?=some (.dK kvs)) (hl:kvs.length < 16777216):qD (.ref n) (.str x) z h=some (h.set n (.dK (dM kvs (.inr x) z))):=by
 show uQ (.ref n) (.str x) z h=_
 exact Ih e hl
@[simp] theorem UW {mk mv:Me} {δ:Ev} {h:PH}:TV mk mv δ h=(mk δ (h++[.dK []])).bind fun x h2=>(mv δ h2).bind fun y h3=>putD x y h.length h3:=(rfl)
end
def Wn:HO->Prop
 | .tup _=>False
 | .own _=>False
 | .tbl _=>False
 | _=>True
def TX:MO->Option (List PV)
 | .dK kvs=>some (kvs.map fun kv=>.tup [kP kv.1,kv.2])
 | .dD kvs=>some (kvs.map fun kv=>.tup [kv.1,kv.2])
 | _=>none
def Wo:MO->Option (List PV)
 | .dK kvs=>some (kvs.map fun kv=>kP kv.1)
 | .dD kvs=>some (kvs.map (·.1))
 | _=>none
section
variable {C:MC} {k:Nat} {X:Cx} {pins:List (Addr×Obj)} {σ:St} {H:Hp} {s:Shared} {φ:List Addr}
structure Yl (C:MC) (φ:List Addr) (H:Hp) (s:Shared) (b:Addr) (o:MO) (ks:List (V×V)) (u:HO) (oc:Obj) (es:Array DictEntry) (ep:Nat):Prop where
 at':H b=some u
 nf:Wn u
 nz:∀ o z,u≠.frz o z
 nt:Df (some u)
 get:s.heap.get? b=some oc
 cls:oc.cls=.type "dict"
 data:oc.data=.dict es ep
 nsys:(b == fh)=false
 fz:∀ φ' H',φ<+:φ'->H' b=some (.frz oc u)->Kp H H'->RO C φ' H' b (.fz o)
 len:ks.length=es.size
 ent:∀ (i:Nat) (hi:i < es.size),∃ kv,ks[i]?=some kv/\RelV kv.1 es[i].key/\RelV kv.2 es[i].val
 keys:∀ xs,Wo o=some xs->RVs C φ H xs (ks.map (·.1))
 items:∀ xs,TX o=some xs->xs.length=ks.length/\∀ (i:Nat) p,xs[i]?=some p->∃ p1 p2 kv,p=.tup [p1,p2]/\ks[i]?=some kv/\RV C φ H p1 kv.1/\RV C φ H p2 kv.2
end
end L2
namespace L2
open PySem PySem.Spec PyProof.Rows PySem.SeqAt
section
variable {X:Cx} {pins:List (Addr×Obj)} {σ:St} {H:Hp} {s:Shared}
theorem xI (I:Inv X pins σ H s):∀ {ds es:List D} {vs:List V},D.depths ds<=40->cI X.K H ds vs->cI X.K H es vs->ds=es
 | [],[],[],_,_,_=>rfl
 | d :: ds,e :: es,v :: vs,h,⟨a,b⟩,⟨a',b'⟩=>by
  have hh:D.depths (d :: ds)=max d.depth (D.depths ds):=by simp [D.depths]
  have h1:d.depth<=40:=by omega
  have h2:D.depths ds<=40:=by omega
  rw [mH I 40 d e v h1 a a',xI I h2 b b']
 | [],_ :: _,vs,_,h,h'=>by
  cases vs with
  | nil=>exact h'.elim
  | cons _ _=>exact h.elim
 | _ :: _,[],vs,_,h,h'=>by
  cases vs with
  | nil=>exact h.elim
  | cons _ _=>exact h'.elim
theorem XW (I:Inv X pins σ H s) {ds es:List D} {A:Around} {x y:V} {v u:Value} (hd:D.depths ds<=40) (hu:A.units+42 < cLine) (hx:Dg X.K H ds x) (hy:Dg X.K H es y) (rx:RelV x v) (ry:RelV y u):EqAt A s v u (eI ds es):=by
 obtain ⟨a,vs,rfl,q,r⟩:=hx;obtain ⟨b,vs',rfl,q',r'⟩:=hy;cases rx; cases ry;refine eJ (fun prog w E Q hq=>?_) (fun e=>?_) (fun f t z=>by cases z)
 ·obtain ⟨its,rv,p,_⟩:=I.list q;obtain ⟨its',rv',p',_⟩:=I.list q';have l1:=r.length;have l2:=r'.length;have l3:=rv.length;have l4:=rv'.length
  by_cases hl:ds.length=es.length
  ·refine eq_listAt p.isList p'.isList (by simp; omega) (by omega) (nY (I:=I) r r' rv rv' hd (by omega)) ?_;have e1:its.toArray.size=ds.length:=by simp; omega
   rw [e1,rR hl];exact hq
  ·refine eq_list_lengthsAt p.isList p'.isList (by simp; omega) (by omega) ?_;have e:eI ds es=false:=by
    cases h:eI ds es with
    | false=>rfl
    | true=>exact absurd (vS h) hl
   rw [e] at hq;exact hq
 ·cases e
  have ev:=I.list_inj q q';subst ev;have e2:=xI I hd r r';subst e2;have:=iQ (.tup ds);simpa [eqD] using this
end
end L2
namespace L2
open PySem PySem.Spec PyProof.Rows PySem.SeqAt PySem.W
def hdk:PV->Option Nat
 | .tup (.int _ :: _)=>some 0
 | .tup (.str _ :: _)=>some 1
 | .tup (.tup _ :: _)=>some 2
 | _=>none
def ltV (x y:PV):Bool:=match x.d,y.d with
 | some d,some e=>ltD d e == some true
 | _,_=>false
structure OkV (b:Bool) (ks:List PV):Prop where
 dat:∀ x∈ks,∃ xs ds,x=.tup xs/\PV.ds xs=some ds/\D.depths ds<=40
 hd:∃ t,((t == 2)=!b)/\t<=2/\∀ x∈ks,hdk x=some t
 can:∀ x∈ks,∀ y∈ks,∃ d e c,x.d=some d/\y.d=some e/\ltD d e=some c
 tr:∀ x∈ks,∀ y∈ks,∀ z∈ks,ltV y x=false->ltV z y=false->ltV z x=false
 as:∀ x∈ks,∀ y∈ks,ltV x y=true->ltV y x=false
 tot:∀ x∈ks,∀ y∈ks,ltV x y=false->ltV y x=false->x=y
end L2
namespace L2
open PySem PySem.Spec PyProof.Rows PySem.SeqAt
structure Mk0 (K:af) (C:Addr):Prop where
 makes:PySem.W.makesIn K C=true
 init:lp K (.ref C) "__init__" = some (some (.builtin "object.__init__"))
 kp:bg K (.ref C)=true
def TY (cn:Str):Me:=fun δ h=>.ok (.ref h.length) (h++[.ins cn []])
section
@[simp] theorem UX {cn:Str} {δ:Ev} {h:PH}:TY cn δ h=.ok (.ref h.length) (h++[.ins cn []]):=(rfl)
end
end L2
namespace L2
open PySem PySem.Spec PyProof.Rows PySem.SeqAt PySem.W
open Classical in
noncomputable def Wp (b:Bool) (m:Nat) (ks ys:List PV):Option (List PV):=if ks.length < 64/\ks.length=ys.length/\OkN m ks/\(∀ a∈ks.zip ys,∀ c∈ks.zip ys,a.1=c.1->a.2=c.2) then some ((m6 b (Sb Prod.fst (ks.zip ys))).map (·.2)) else none
noncomputable def DR (f:Fn) (b:Bool) (kb:Nat) (ys:List PV):List PV->List PV->PH->Rs PV
 | [],ks,h=>match Wp b kb ks ys with
  | some zs=>.ok (.ref h.length) (h++[.lst zs])
  | none=>.bad
 | x :: xs,ks,h=>(f [x] h).bind fun k h1=>DR f b kb ys xs (ks++[k]) h1
noncomputable def Il (f:Fn) (b:Bool) (kb:Nat) (x:PV) (h:PH):Rs PV:=match iI x h with
 | some ys=>if ys.length < 64 then DR f b kb ys ys [] h else .bad
 | none=>.bad
noncomputable def Q2 (f:Fn) (b:Bool) (kb:Nat) (me:Me):Me:=fun δ h=>(me δ h).bind fun x h1=>Il f b kb x h1
section
variable {δ:Ev} {h:PH} {m:Me}
@[simp] theorem TZ {f:Fn} {b:Bool} {n:Nat}:Q2 f b n m δ h=(m δ h).bind fun x h1=>Il f b n x h1:=(rfl)
end
end L2
namespace L2
open PySem PySem.Spec PyProof.Rows PySem.SeqAt
def eqL (f:PV->PV->Option Bool):List PV->List PV->Option Bool
 | x :: xs,y :: ys=>match f x y,eqL f xs ys with
  | some b,some c=>some (b && c)
  | _,_=>none
 | [],[]=>some true
 | _,_=>some false
theorem Mu {f:PV->PV->Option Bool}:∀ {xs ys:List PV} {b:Bool},eqL f xs ys=some b->
  ∃ g:Nat->Bool,(∀ (j:Nat) (x y:PV),xs[j]?=some x->ys[j]?=some y->f x y=some (g j))/\b=((ba (min xs.length ys.length)).all g && xs.length == ys.length)
 | [],[],b,e=>⟨fun _=>true,fun j x y h=>(by simp at h),by cases e; rfl⟩
 | [],y :: ys,b,e=>⟨fun _=>true,fun j x y h=>(by simp at h),by cases e; simp⟩
 | x :: xs,[],b,e=>⟨fun _=>true,fun j x y _ h=>(by simp at h),by cases e; simp⟩
 | x :: xs,y :: ys,b,e=>by
  unfold eqL at e;split at e
  ·rename_i b' c e1 e2;cases e
   obtain ⟨g,h1,h2⟩:=Mu e2;refine ⟨fun j=>match j with | 0=>b' | j+1=>g j,fun j x y hx hy=>?_,?_⟩
   ·cases j with
    | zero=>simp at hx hy; subst hx hy; exact e1
    | succ j=>exact h1 j x y (by simpa using hx) (by simpa using hy)
   ·rw [h2];have e3:min (x :: xs).length (y :: ys).length=min xs.length ys.length+1:=by simp only [da]; omega
    rw [e3,List.range_succ_eq_map,ib,List.all_map,Bool.and_assoc];simp [Function.comp_def]
  ·cases e
theorem BS {f:PV->PV->Option Bool} {R:PV->V->Prop} (hf:∀ x y v b,f x y=some b->R x v->R y v->b=true):∀ {xs ys:List PV} {vs:List V} {b:Bool},(∀ (j:Nat) (x:PV),xs[j]?=some x->∃ v,vs[j]?=some v/\R x v)->(∀ (j:Nat) (x:PV),ys[j]?=some x->∃ v,vs[j]?=some v/\R x v)->xs.length=ys.length->eqL f xs ys=some b->b=true
 | [],[],_,b,_,_,_,e=>by cases e; rfl
 | [],_ :: _,_,_,_,_,h,_=>by simp at h
 | _ :: _,[],_,_,_,_,h,_=>by simp at h
 | x :: xs,y :: ys,vs,b,h1,h2,h,e=>by
  unfold eqL at e;split at e
  ·rename_i b' c e1 e2;cases e
   obtain ⟨v,hv,rx⟩:=h1 0 x rfl;obtain ⟨v',hv',ry⟩:=h2 0 y rfl;rw [hv] at hv';cases hv'
   rw [hf x y v b' e1 rx ry,BS hf (vs:=vs.tail) (fun j z hz=>by simpa using h1 (j+1) z hz) (fun j z hz=>by simpa using h2 (j+1) z hz) (by simpa using h) e2]
   rfl
  ·cases e
def eqF:Nat->PV->PV->PH->Option Bool
 | 0,x,y,h=>jO x y h
 | n+1,x,y,h=>match jO x y h with
  | some b=>some b
  | none=>match x,y with
   | .tup xs,.tup ys=>eqL (fun a b=>eqF n a b h) xs ys
   | x,y=>match cX x h,cX y h with
    | some xs,some ys=>eqL (fun a b=>eqF n a b h) xs ys
    | _,_=>none
def Q4:PV->PV->PH->Rs PV:=fun x y h=>ofB ((eqF 3 x y h).map not) h
section
variable {C:MC} {k:Nat} {X:Cx} {pins:List (Addr×Obj)} {σ:St} {H:Hp} {s:Shared} {φ:List Addr} {h:PH}
theorem oI:∀ {xs:List PV} {vs:List V},RVs C φ H xs vs->xs.length=vs.length/\∀ (j:Nat) (x:PV),xs[j]?=some x->∃ v,vs[j]?=some v/\RV C φ H x v
 | [],[],_=>⟨rfl,fun j x h=>by simp at h⟩
 | x :: xs,v :: vs,r=>by
  obtain ⟨l,q⟩:=oI r.2;refine ⟨by simp [l],fun j y hy=>?_⟩;cases j with
  | zero=>simp at hy; subst hy; exact ⟨v,rfl,r.1⟩
  | succ j=>simpa using q j y (by simpa using hy)
 | [],_ :: _,r=>r.elim
 | _ :: _,[],r=>r.elim
theorem AE (I:Inv X pins σ H s) (hK:X.K=C.K) (rh:RH C φ H h) {x y:PV} {w:V} {b:Bool} (e:jO x y h=some b) (rx:RV C φ H x w) (ry:RV C φ H y w):b=true:=by
 rcases jP rh rx ry e with ⟨d,e',q1,q2,q3,rfl⟩ | ⟨d,e',⟨a,vs,hw,sa,ra⟩,⟨a',us,hw',sa',ra'⟩,q3,rfl⟩
 ·rw [<- hK] at q1 q2;rw [mH I 40 d e' w q3 q1 q2];exact iQ _
 ·rw [<- hK] at sa sa' ra ra';subst hw;cases hw'
  have ev:=I.list_inj sa sa';subst ev;have e2:=xI I q3 ra ra';subst e2;have:=iQ (.tup d);simpa [eqD] using this
theorem Mv (I:Inv X pins σ H s) (hK:X.K=C.K) (rh:RH C φ H h):∀ (n:Nat) (x y:PV) (w:V) (b:Bool),eqF n x y h=some b->RV C φ H x w->RV C φ H y w->b=true:=by
 intro n
 induction n with
 | zero=>intro x y w b e rx ry; exact AE I hK rh e rx ry
 | succ n ih=>
  intro x y w b e rx ry;unfold eqF at e;split at e
  ·rename_i b' e2;cases e
   exact AE I hK rh e2 rx ry
  ·split at e
   ·rename_i xs ys _;obtain ⟨a,vs,rfl,q,r⟩:=rx;obtain ⟨a',us,hw,q',r'⟩:=ry;cases hw
    rw [<- hK] at q q';have ev:=I.tuple_inj q q';subst ev;obtain ⟨l1,a1⟩:=oI r;obtain ⟨l2,a2⟩:=oI r';exact BS (R:=RV C φ H) (fun x y v b=>ih x y v b) a1 a2 (by omega) e
   ·split at e
    ·rename_i xs ys h1 h2;obtain ⟨a,vs,rfl,sa,ra⟩:=dN rh rx h1;obtain ⟨a',us,hw,sb,rb⟩:=dN rh ry h2;cases hw
     rw [<- hK] at sa sb;have ev:=I.list_inj sa sb;subst ev;obtain ⟨l1,a1⟩:=oI ra;obtain ⟨l2,a2⟩:=oI rb;exact BS (R:=RV C φ H) (fun x y v b=>ih x y v b) a1 a2 (by omega) e
    ·cases e
theorem DS {n:Nat} (hn:∀ (A:Around) (x y:PV) (v u:V) (i j:Value) (b:Bool),A.units+42+n < cLine->eqF n x y h=some b->RV C φ H x v->RV C φ H y u->RelV v i->RelV u j->EqAt A s i j b)
  {A:Around} {xs ys:List PV} {b:Bool} {vs us:List V} {is js:List Value} (hu:A.units+42+n < cLine) (e:eqL (fun a b=>eqF n a b h) xs ys=some b) (r:RVs C φ H xs vs) (r':RVs C φ H ys us) (rv:aM vs is) (rw':aM us js):
  ∃ g:Nat->Bool,is.toArray.size=xs.length/\js.toArray.size=ys.length/\(∀ (j:Nat) (h1:j < is.toArray.size) (h2:j < js.toArray.size),EqAt A s is.toArray[j] js.toArray[j] (g j))/\b=((ba (min is.toArray.size js.toArray.size)).all g && is.toArray.size == js.toArray.size):=by
 obtain ⟨g,hg,hb⟩:=Mu e;obtain ⟨l1,a1⟩:=oI r;obtain ⟨l2,a2⟩:=oI r';have l3:=rv.length;have l4:=rw'.length;have z1:is.toArray.size=xs.length:=by simp; omega
 have z2:js.toArray.size=ys.length:=by simp; omega
 refine ⟨g,z1,z2,fun j h1 h2=>?_,by rw [z1,z2]; exact hb⟩;have k1:j < xs.length:=by omega
 have k2:j < ys.length:=by omega
 obtain ⟨v,hv,q1⟩:=a1 j xs[j] (iq k1);obtain ⟨u,hu',q2⟩:=a2 j ys[j] (iq k2);obtain ⟨i,hi,q3⟩:=rv.get hv;obtain ⟨i',hi',q4⟩:=rw'.get hu';have e1:is.toArray[j]=i:=by
  have:=(ab.mp hi).2;simpa using this
 have e2:js.toArray[j]=i':=by
  have:=(ab.mp hi').2;simpa using this
 rw [e1,e2];exact hn A _ _ v u i i' (g j) hu (hg j _ _ (iq k1) (iq k2)) q1 q2 q3 q4
theorem Mw (I:Inv X pins σ H s) (hK:X.K=C.K) (rh:RH C φ H h) (n:Nat) (hn:∀ (A:Around) (x y:PV) (v u:V) (i j:Value) (b:Bool),A.units+42+n < cLine->eqF n x y h=some b->RV C φ H x v->RV C φ H y u->RelV v i->RelV u j->EqAt A s i j b)
  (A:Around) (x y:PV) (v u:V) (i j:Value) (b:Bool) (hu:A.units+43+n < cLine) (e2:jO x y h=none) (e:eqF (n+1) x y h=some b) (rx:RV C φ H x v) (ry:RV C φ H y u) (r1:RelV v i) (r2:RelV u j):
  RcAt A s i j b/\RcNeAt A s i j (!b)/\∃ a a',i=.ref a/\j=.ref a'/\v=.ref a/\u=.ref a':=by
 unfold eqF at e;rw [e2] at e;simp only at e;split at e
 ·rename_i xs ys;obtain ⟨a,vs,rfl,q,r⟩:=rx;obtain ⟨a',us,rfl,q',r'⟩:=ry;cases r1; cases r2;rw [<- hK] at q q';obtain ⟨its,rv,p,_⟩:=I.tuple q;obtain ⟨its',rv',p',_⟩:=I.tuple q';obtain ⟨g,z1,z2,el,hb⟩:=DS hn (A:=A.in1) (by show A.units+1+42+n < cLine; omega) e r r' rv rv';rw [hb];exact ⟨RcAt.tuples p p' (by omega) el,RcNeAt.tuples p p' (by omega) el,a,a',rfl,rfl,rfl,rfl⟩
 ·split at e
  ·rename_i xs ys h1 h2;obtain ⟨a,vs,rfl,sa,ra⟩:=dN rh rx h1;obtain ⟨a',us,rfl,sb,rb⟩:=dN rh ry h2;cases r1; cases r2;rw [<- hK] at sa sb;obtain ⟨its,rv,p,_⟩:=I.list sa;obtain ⟨its',rv',p',_⟩:=I.list sb;obtain ⟨g,z1,z2,el,hb⟩:=DS hn (A:=A.in1) (by show A.units+1+42+n < cLine; omega) e ra rb rv rv';refine ⟨?_,?_,a,a',rfl,rfl,rfl,rfl⟩
   all_goals by_cases hl:its.toArray.size=its'.toArray.size
   all_goals first
    | rw [hb,<- hl,Nat.min_self,beq_self_eq_true,Bool.and_true]
    | rw [hb,beq_eq_false_iff_ne.mpr hl,Bool.and_false]
   ·intro prog w E Q hq;exact eq_listAt p.isList p'.isList hl (by omega) el hq
   ·intro prog w E Q hq;exact eq_list_lengthsAt p.isList p'.isList (by simpa using hl) (by omega) hq
   ·exact RcNeAt.lists p.isList p'.isList hl (by omega) el
   ·exact RcNeAt.lists_lengths p.isList p'.isList (by simpa using hl) (by omega)
  ·cases e
theorem U0 (I:Inv X pins σ H s) (hK:X.K=C.K) (rh:RH C φ H h):∀ (n:Nat) (A:Around) (x y:PV) (v u:V) (i j:Value) (b:Bool),A.units+42+n < cLine->eqF n x y h=some b->RV C φ H x v->RV C φ H y u->RelV v i->RelV u j->EqAt A s i j b:=by
 have base:∀ (A:Around) (x y:PV) (v u:V) (i j:Value) (b:Bool),A.units+42 < cLine->jO x y h=some b->RV C φ H x v->RV C φ H y u->RelV v i->RelV u j->EqAt A s i j b:=by
  intro A x y v u i j b hu e rx ry r1 r3;rcases jP rh rx ry e with ⟨d,e',q1,q2,q3,rfl⟩ | ⟨d,e',q1,q2,q3,rfl⟩
  ·exact Lp I (n:=40) q3 (by omega) (by rw [hK]; exact q1) (by rw [hK]; exact q2) r1 r3
  ·exact XW I q3 hu (by rw [hK]; exact q1) (by rw [hK]; exact q2) r1 r3
 intro n
 induction n with
 | zero=>intro A x y v u i j b hu e; exact base A x y v u i j b (by omega) e
 | succ n ih=>
  intro A x y v u i j b hu e rx ry r1 r2;cases e2:jO x y h with
  | some b'=>
   unfold eqF at e;rw [e2] at e;cases e
   exact base A x y v u i j b (by omega) e2 rx ry r1 r2
  | none=>
   obtain ⟨h1,_,a,a',rfl,rfl,rfl,rfl⟩:=Mw I hK rh n ih A x y v u i j b (by omega) e2 e rx ry r1 r2;refine eJ h1 (fun z=>?_) (fun f t z=>by cases z);cases z
   exact Mv I hK rh (n+1) x y _ b e rx ry
theorem Mx {x y:PV} {b:Bool} (e:eqF 3 x y h=some b):jO x y h=some b\/jO x y h=none:=by
 unfold eqF at e;split at e
 ·rename_i b' e2;cases e
  exact .inl e2
 ·exact .inr (by assumption)
theorem U1:OpS C k X (cu .NotEq) Q4:=fun c=>by
 intro pins s σ H x y v u Q I rx ry hq;obtain ⟨φ,h,p,q,rh,rp,rq,po⟩:=hq;obtain ⟨b0,e0,po⟩:=po.ofB;obtain ⟨b,e,rfl⟩:=a7.mp e0;have hu:=c.hu64;rcases Mx e with e2 | e2
 ·refine Tt c pins s σ H x y v u Q I rx ry ⟨φ,h,p,q,rh,rp,rq,?_⟩;unfold vNe;rw [e2];exact po
 ·exact (Mw I c.K rh 2 (U0 I c.K rh 2) X.A p q x y v u b (by omega) e2 e rp rq rx ry).2.1 X.prog X.w X.xe _ ⟨.bl _,H,I,rfl,po.val rh rfl⟩
end
end L2
namespace L2
open PySem PySem.Spec PyProof.Rows PySem.SeqAt
open PySem.AutoSeq1 (wpAny_loadPart')
open PySem.MeetsSeq PySem.MeetsSeq2 PySem.MeetsSeq3
section
variable {C:MC} {k:Nat} {X:Cx}
def XX:PV->PV->PH->Rs PV:=fun x y h=>match x,y with
 | .tup xs,.tup ys=>ofB (if (PV.tup xs).d.all (fun d=>decide (d.depth<=40)) then (M3 (.tup ys) (.tup xs)).map (!·) else none) h
 | x,y=>vLe x y h
variable {h:PH}
@[simp] theorem Wq {i j:Int}:XX (.int i) (.int j) h=.ok (.bl (decide (i<=j))) h:=(rfl)
end
end L2
namespace L2
open PySem PySem.Spec PyProof.Rows PySem.SeqAt PySem.W
def DT (o:Option (PV×Int)) (y:PV) (i:Int):Option (PV×Int):=match o with
 | some b=>if b.2 < i then some (y,i) else some b
 | none=>some (y,i)
noncomputable def dS (f:Fn) (n:Nat) (xs:List PV):List PV->Option (PV×Int)->PH->Rs PV
 | [],o,h=>if nH n xs h=true then (match o with | some b=>.ok b.1 h | none=>.ok .non h) else .bad
 | y :: ys,o,h=>if nH n xs h=true then (f [y] h).bind fun k h1=>match k with
   | .int i=>dS f n xs ys (DT o y i) h1
   | _=>.bad
  else .bad
noncomputable def AF (f:Fn) (x:PV) (h:PH):Rs PV:=match x with
 | .ref n=>match aN h n with
  | some xs=>dS f n xs xs none h
  | none=>.bad
 | _=>.bad
noncomputable def Im (f:Fn) (me:Me):Me:=fun δ h=>(me δ h).bind fun x h1=>AF f x h1
theorem G2 (a v:Value):argsOk "max" ⟨[a],[("key",v),("default",.none)]⟩:=by rfl
theorem BU (v:Value):Builtin.Builtins.bindParams "max" ["key","default"] 0 ⟨[],[("key",v),("default",.none)]⟩=pure [some v,some .none]:=by rfl
section
variable {prog:Program} {w:World} {A:Around} {E:Value->Shared->Prop} {s:Shared}
theorem My {id:String} {b:Builtin} {args:Args} {Q:Value->Shared->Prop} (hk:builtinKind id=none) (hp:plainId id=true) (he:entryFor table id=some b) (ha:argsOk id args)
  (h:wpAny (model prog w) A.in1 (b args) (fun fin s'=>match fin with | .done f=>wants Q E (.ok f) s' | .again c'=>c'.quiet=true/\codeAny (model prog w) A c' (wants Q E) s') E s):wpAny (model prog w) A (call (.builtin id) args.pos args.kw) Q E s:=by
 have e:checkBuiltinCall id args=pure ():=by
  unfold checkBuiltinCall;rw [hk];unfold argsOk at ha;generalize Manifest.signature? id=sg at ha ⊢;cases sg <;> cases splitId id <;> first | rfl | exact ha
 refine wpAny_call (codeAny_call_builtin hp he (wpAny_of_eq e ?_));exact h
theorem JE {l:Addr} {items:Array Value} {v:Value} {Q:Value->Shared->Prop} (hl:s.heap.IsList l items)
  (h:codeAny (model prog w) A (.builtin "max.loop" ⟨[.ref s.heap.objs.size,v,.ref (s.heap.objs.size+1)],[("default",.none)]⟩) (wants Q E)
   { s with heap:=(s.heap.push { cls:=.type "list_iterator",data:=.fields #[.ref l,.int 0 0] }).push (seqObj "list" #[] 0) }):
  wpAny (model prog w) A (call (.builtin "max") [.ref l] [("key",v),("default",.none)]) Q E s:=by
 refine My (args:=⟨[.ref l],[("key",v),("default",.none)]⟩) F.kind_max F.plain_max F.entry_max (G2 _ _) ?_
 show wpAny _ _ (Builtin.Builtins.bindParams "max" ["key","default"] 0 ⟨[],[("key",v),("default",.none)]⟩ >>= _) _ _ s
 refine aa (wpAny_of_eq (BU v) ?_);refine (show wpAny _ _ (pure (dm l) >>= _) _ _ s from aa (ag ?_))
 refine aa (k8 hl ?_);refine aa (wpAny_newList ?_ (by rw [c6]; simp));refine ag ⟨ka kh _,?_⟩;have e:(s.heap.push { cls:=.type "list_iterator",data:=.fields #[.ref l,.int 0 0] }).objs.size=s.heap.objs.size+1:=by rw [kj]
 simp only [e] at*;exact h
end
section
variable {C:MC} {k:Nat} {X:Cx} {x:Str} {st:Stmt} {q:Addr} {fd:c3} {pn:List Str} {j:Nat} {f:Fn}
def Mz (C:MC) (φ:List Addr) (H:Hp) (o:Option (PV×Int)) (best:List Value):Prop:=match o with
 | none=>best=[]
 | some b=>∃ v u t,best=[u,.int b.2 t]/\RelV v u/\RV C φ H b.1 v
def Wr (X:Cx) (pins:List (Addr×Obj)) (a:Addr):Prop:=X.s₀.heap.objs.size<=a/\a≠X.env.locals/\(∀ x c,X.env.cells.lookup x=some c->c≠a)/\(∀ p∈X.pn++pins,p.1≠a)/\a∉X.fs
theorem Ip {n:Nat} {xs:List PV} {h:PH} (e:nH n xs h=true):aN h n=some xs:=by
 unfold nH at e;cases q:aN h n with
 | none=>rw [q] at e; cases e
 | some ys=>rw [q] at e; rw [PV.beqs_eq e]
theorem JF (c:Cxt C k X) (D:Def C.K X.mg x st q fd pn) (G:aU X.prog X.w C.K X.mg X.base CX0 j q fd pn (spM C 1 f)) (hj:j+1<=k) {pins:List (Addr×Obj)} {σ:St} {Q:VK} {n:Nat} {xs:List PV} {l it S:Addr} (hne:it≠S) (fI:Wr X pins it) (fS:Wr X pins S):
  ∀ (m i:Nat) (s:Shared) (H:Hp) (φ:List Addr) (h:PH) (o:Option (PV×Int)) (best:List Value) (cc:Nat),xs.length - i=m->i<=xs.length->Inv X pins σ H s->H S=none->H it=none->s.heap.get? S=some (seqObj "list" best.toArray cc)->s.heap.IsListIter it l i->RH C φ H h->φ[n]?=some l->Mz C φ H o best->
   post C φ H (dS f n xs (xs.drop i) o h) Q->codeAny (model X.prog X.w) X.A (.builtin "max.loop" ⟨[.ref it,.ref q,.ref S],[("default",.none)]⟩) (wants (EP X pins σ Q) X.xe) s:=by
 intro m
 induction m with
 | zero=>
  intro i s H φ h o best cc hm hi I hS hI gS sti rh hn bo po;have e:i=xs.length:=by omega
  subst e;rw [l9] at po;unfold dS at po;obtain ⟨hg,po⟩:=po.ite;obtain ⟨a,vs,ha,sq,rv⟩:=bN rh (Ip hg);rw [hn] at ha;cases ha
  rw [<- c.K] at sq;obtain ⟨its,rvs,pl,hz⟩:=I.list sq;have l1:=rv.length;have l2:=rvs.length;refine k0 F.entry_max_loop ?_;rw [iw kh];refine (show wpAny _ _ (seqItems? (.ref S) >>= _) _ _ s from aa (wpAny_seqItems gS rfl ?_))
  refine (show wpAny _ _ (tryCatch (pyNext (.ref it)) _ >>= _) _ _ s from aa (l0 (wpAny_pyNext_list_end (I.ok.hd c.calm) sti pl.isList (by simp; omega) fun h' eb=>?_)))
  have I1:Inv X pins σ H { s with heap:=h' }:=I.turned (t':=s.toks) (fun b o hb e=>eb b o hb e) hI fI.2.1 (.inr fI.1) fI.2.2.1 fI.2.2.2.1;cases o with
  | none=>
   cases bo
   refine (show wpAny _ _ (rule _ >>= _) _ _ _ from aa (jt (ag ?_)))
   exact ⟨.non,H,I1,rfl,po.val rh rfl⟩
  | some b=>
   obtain ⟨v,u,t,rfl,ru,rv⟩:=bo;have gS':=eb S _ (j5 hne) gS;refine (show wpAny _ _ (updateSeq S (fun _=>#[]) >>= _) _ _ _ from aa (wpAny_updateSeq gS' rfl ?_ (by rw [c6]; simp) (by rw [c6]; simp)))
   refine (show wpAny _ _ (letGo [_] [u] >>= _) _ _ _ from aa (wpAny_letGo (ag ?_)))
   refine ⟨v,H,I1.turned (t':=s.toks) (it:=S) (fun b o hb e=>?_) hS fS.2.1 (.inr fS.1) fS.2.2.1 fS.2.2.2.1,ru,po.val rh rv⟩;rw [j9 _ _ _ _ hb];exact e
 | succ m ih=>
  intro i s H φ h o best cc hm hi I hS hI gS sti rh hn bo po;have hlt:i < xs.length:=by omega
  have gy:xs[i]?=some xs[i]:=by simp [hlt]
  rw [drop_cons gy] at po;unfold dS at po;obtain ⟨hg,po⟩:=po.ite;obtain ⟨a,vs,ha,sq,rv⟩:=bN rh (Ip hg);rw [hn] at ha;cases ha
  rw [<- c.K] at sq;obtain ⟨its,rvs,pl,hz⟩:=I.list sq;obtain ⟨v,hv,rvv⟩:=rv.at gy;obtain ⟨u,hu,ru⟩:=rvs.get hv;refine k0 F.entry_max_loop ?_;rw [iw kh];refine (show wpAny _ _ (seqItems? (.ref S) >>= _) _ _ s from aa (wpAny_seqItems gS rfl ?_))
  refine (show wpAny _ _ (tryCatch (pyNext (.ref it)) _ >>= _) _ _ s from aa (l0 (wpAny_pyNext_list_item sti pl.isList (x:=u) (by simpa using hu) fun h' st' sb=>?_)))
  have I1:Inv X pins σ H { s with heap:=h' }:=I.turned (t':=s.toks) (fun b o hb e=>(sb.2 b hb).trans e) hI fI.2.1 (.inr fI.1) fI.2.2.1 fI.2.2.2.1;have gS':h'.get? S=some (seqObj "list" best.toArray cc):=(sb.2 S (j5 hne)).trans gS;obtain ⟨oi,ei,ci,di⟩:=id st';have I2:Inv X (pins++[(S,seqObj "list" best.toArray cc),(it,oi)]) σ H { s with heap:=h' }:=I1.pins_of fun p hp=>by
   rcases bj.mp hp with hp | hp
   ·exact I1.pin p (ak _ hp)
   ·rcases bc.mp hp with rfl | hp
    ·exact ⟨gS',hS,fS.2.1,fS.2.2.2.2,iC⟩
    ·rw [bu.mp hp];exact ⟨ei,hI,fI.2.1,fI.2.2.2.2,fun v z=>by rw [di] at z; cases z⟩
  have e1':=c.K;have G':aU X.prog X.w X.K X.mg X.base CX0 j q fd pn (spM C 1 f):=by rw [e1']; exact G
  have D':Def X.K X.mg x st q fd pn:=by rw [e1']; exact D
  have sp1:spM C 1 f [v] H (fun v H2=>∃ φ2 p h2,φ<+:φ2/\Kp H H2/\RH C φ2 H2 h2/\RV C φ2 H2 p v/\post C φ2 H2 (match p with
   | .int i'=>dS f n xs (xs.drop (i+1)) (DT o xs[i] i') h2
   | _=>.bad) Q) E0:=
   ⟨φ,h,[xs[i]],rh,⟨rvv,trivial⟩,rfl,post.bind po⟩
  have hl:([u]:List Value).length=pn.length:=G'.len _ _ _ _ sp1;refine (show wpAny _ _ (tryCatch (holding [u] (call (.ref q) [u])) _ >>= _) _ _ _ from aa (l0 (dg ?_)))
  refine wpAny_call (codeAny_mono (G'.run X.A.in1 X.stack _ H ⟨[u],[]⟩ [u] [v] _ E0 ((c.room.mono hj).in1) I2.env0.in1 (by
   have:=D'.bd { s with heap:=h' } [u] I2.kIn (by simpa using hl)
   simpa using this) (.cons ru .nil) sp1) fun r s2 hq=>?_)
  cases r with
  | error e=>exact hq.elim
  | ok fl=>
   cases fl with
   | next=>exact gz hq
   | brk=>exact gz hq
   | cont=>exact gz hq
   | ret val=>
    obtain ⟨x2,H2,I3,rx2,φ2,p2,h2,pp2,tt2,rh2,rp2,po2⟩:=I2.after hq;have gk:=I3.pin (S,seqObj "list" best.toArray cc) (ak _ (ak _ aj));have gi:=I3.pin (it,oi) (ak _ (ak _ (ao _ aj)));have I4:Inv X pins σ H2 s2:=I3.unpinned;have st2:s2.heap.IsListIter it l (i+1):=st'.at fun o e=>by
     have:o=oi:=bh (e.symm.trans ei);rw [this]; exact gi.1
    have hn2:=gZ pp2 hn;cases p2 with
    | int i'=>
     cases rp2
     obtain ⟨t,rfl⟩:=rx2;have again:∀ (o':Option (PV×Int)) (best':List Value) (cc':Nat) (g:Heap) (t':Nat),(∀ b o,b≠S->s2.heap.get? b=some o->g.get? b=some o)->g.get? S=some (seqObj "list" best'.toArray cc')->Mz C φ2 H2 o' best'->post C φ2 H2 (dS f n xs (xs.drop (i+1)) o' h2) Q->
       codeAny (model X.prog X.w) X.A (.builtin "max.loop" ⟨[.ref it,.ref q,.ref S],[("default",.none)]⟩) (wants (EP X pins σ Q) X.xe) { s2 with heap:=g,toks:=t' }:=fun o' best' cc' g t' kp hb bo' po'=>by
      refine ih (i+1) _ H2 φ2 h2 o' best' cc' (by omega) hlt (I4.turned (t':=t') (it:=S) kp gk.2.1 fS.2.1 (.inr fS.1) fS.2.2.1 fS.2.2.2.1) gk.2.1 gi.2.1 hb (st2.at fun o e=>kp it o hne e) rh2 hn2 bo' po'
     have po2:post C φ2 H2 (dS f n xs (xs.drop (i+1)) (DT o xs[i] i') h2) Q:=po2;cases o with
     | none=>
      cases bo
      refine (show wpAny _ _ (updateSeq S (fun _=>#[u,.int i' t]) >>= _) _ _ _ from aa (wpAny_updateSeq gk.1 rfl ?_ (by rw [c6]; simp) (by rw [c6]; simp)))
      obtain ⟨c2,hc2⟩:∃ c2,(s2.heap.update S (cy fun _=>#[u,.int i' t])).get? S=some (seqObj "list" #[u,.int i' t] c2):=⟨_,i6 gk.1 fun _=>#[u,.int i' t]⟩;exact ag ⟨ka kh _,again (some (xs[i],i')) [u,.int i' t] c2 _ s2.toks (fun b o hb e=>by rw [j9 _ _ _ _ hb]; exact e) hc2 ⟨v,u,t,rfl,ru,rvv.mono pp2 tt2⟩ po2⟩
     | some b=>
      obtain ⟨v0,u0,t0,rfl,ru0,rv0⟩:=bo;refine (show wpAny _ _ (tryCatch (holding [u,.int i' t] (richCompare .Gt (.int i' t) (.int b.2 t0) >>= _)) _ >>= _) _ _ _ from aa (l0 (dg (aa (PyProof.Rows.gt_int (a:=i') (b:=b.2) ?_)))))
      refine aa (dg (i3 (aa (wpAny_letGo (ag ?_)))));have eb:DT (some b) xs[i] i'=if b.2 < i' then some (xs[i],i') else some b:=rfl
      by_cases hb:b.2 < i'
      ·rw [eb,if_pos hb] at po2;rw [if_pos (by simpa using hb)]
       refine aa (wpAny_updateSeq gk.1 rfl ?_ (by rw [c6]; simp) (by rw [c6]; simp));obtain ⟨c2,hc2⟩:∃ c2,(s2.heap.update S (cy fun _=>#[u,.int i' t])).get? S=some (seqObj "list" #[u,.int i' t] c2):=⟨_,i6 gk.1 fun _=>#[u,.int i' t]⟩;exact aa (wpAny_letGo (ag ⟨ka kh _,again (some (xs[i],i')) [u,.int i' t] c2 _ s2.toks (fun b o hb e=>by rw [j9 _ _ _ _ hb]; exact e) hc2 ⟨v,u,t,rfl,ru,rvv.mono pp2 tt2⟩ po2⟩))
      ·rw [eb,if_neg hb] at po2;rw [if_neg (by simpa using hb)]
       exact aa (wpAny_letGo (ag ⟨ka kh _,again (some b) [u0,.int b.2 t0] cc _ s2.toks (fun _ _ _ e=>e) gk.1 ⟨v0,u0,t0,rfl,ru0,rv0.mono pp2 tt2⟩ po2⟩))
    | _=>exact po2.elim
theorem JG (c:Cxt C k X) (D:Def C.K X.mg x st q fd pn) (G:aU X.prog X.w C.K X.mg X.base CX0 j q fd pn (spM C 1 f)) (hj:j+1<=k) {pins:List (Addr×Obj)} {s:Shared} {σ:St} {H:Hp} {Q:VK} {v:V} {u:Value} (I:Inv X pins σ H s) (ru:RelV v u) (h:r1 C (AF f) v H Q):
  wpAny (model X.prog X.w) X.A (call (.builtin "max") [u] [("key",.ref q),("default",.none)]) (EP X pins σ Q) X.xe s:=by
 obtain ⟨φ,h,p,rh,rp,po⟩:=h;unfold AF at po;cases p with
 | ref n=>
  simp only at po;cases el:aN h n with
  | none=>rw [el] at po; exact po.elim
  | some xs=>
   rw [el] at po;obtain ⟨a,rfl,ha⟩:=rp;cases ru
   obtain ⟨a2,vs,ha2,sq,rv⟩:=bN rh el;rw [ha] at ha2;cases ha2
   have sq':=sq;rw [<- c.K] at sq';obtain ⟨its,rvs,pl,hz⟩:=I.list sq';refine JE pl.isList ?_;have kp:∀ b o,s.heap.get? b=some o->((s.heap.push { cls:=.type "list_iterator",data:=.fields #[.ref a,.int 0 0] }).push (seqObj "list" #[] 0)).get? b=some o:=fun b o e=>ah _ (ah _ e);have fI:=wY I (ai s.heap.objs.size);have fS:=wY I (Nat.le_succ s.heap.objs.size);refine JF (xs:=xs) (n:=n) (l:=a) c D G hj (a9 (Nat.lt_succ_self _)) fI fS xs.length 0 _ H φ h none [] 0 (by omega) (b9 _) (I.kept (t':=s.toks) kp) (I.hok.fresh (Nat.le_succ _)) (I.hok.fresh (ai _)) ?_ ?_ rh ha rfl (by rw [List.drop_zero]; exact po)
   ·have e:(s.heap.push { cls:=.type "list_iterator",data:=.fields #[.ref a,.int 0 0] }).objs.size=s.heap.objs.size+1:=by rw [kj]
    show ((s.heap.push _).push (seqObj "list" #[] 0)).get? (s.heap.objs.size+1)=_
    rw [<- e];exact a8 _ rfl
   ·exact ⟨_,ah _ (a8 _ rfl),rfl,rfl⟩
 | _=>exact po.elim
end
section
variable {C:MC} {k:Nat} {X:Cx} {kf:Str} {st:Stmt} {q:Addr} {fd:c3} {pn:List Str} {j jn:Nat} {f:Fn} {e:Expr} {me:Me} {p pos kp kpos rp rpos:Pos}
theorem MA {Q:VK} {σ:St} {H:Hp} (h:rd C (Im f me) σ H Q):Lc (rd C me) SQ σ H fun vs H1=>∃ x,vs=[x]/\r1 C (AF f) x H1 Q:=by
 obtain ⟨φ,δ,h,rh,re,po⟩:=h;refine ⟨φ,δ,h,rh,re,(post.bind po).imp ?_⟩;rintro v H1 ⟨φ1,x,h1,p1,t1,rh1,rv1,q1⟩;exact ⟨v,rfl,φ1,h1,x,rh1,rv1,q1⟩
theorem U2 (D:Def C.K X.mg kf st q fd pn) (G:aU X.prog X.w C.K X.mg X.base CX0 j q fd pn (spM C 1 f)) (he:SE C k X e me) (hb:("max" : Str)∈C.bs) (hj:j+1<=k:=by decide) (hg:Gl X "max" := by rfl) (hgk:Gl X kf:=by rfl) (hdk:(kf == ("__debug__" : Str))=false:=by decide)
  (hst:cf [e] X.env=(false,eval e X.env) :: cf [] X.env:=by rfl) (hbk:backTo pos (cf [e] X.env)=(false,eval e X.env) :: backTo pos (cf [] X.env):=by rfl) (hpl:(backTo pos (cf [e] X.env)).any (·.1)=false:=by rfl):
  SE C k X (.Call (.Name "max" p) [e] [⟨some "key",.Name kf kp,kpos⟩,⟨some "default",.Constant .none jn rp,rpos⟩] pos) (Im f me):=fun c pins s σ H Q I h=>by
 refine jc (rK I hg (c.bn _ hb) PyProof.Rows.Boot.«max» ?_ (by decide) (by decide));refine callWith_kw (thn (uX (he c) Bf hst pos pins s σ H _ I (MA h)) fun us s1 hh=>?_) hbk hpl;obtain ⟨vs,H1,I1,rv,x,rfl,r⟩:=hh;obtain ⟨u,rfl,ru⟩:=vals1 rv;refine kws_cons (uW I1 hgk D.mg (kws_cons (Constant_none (kws_nil ?_))) hdk)
 show wpAny _ _ (call (.builtin "max") [u] [(j3 "key",.ref q),(j3 "default",.none)]) _ _ _
 exact JG c D G hj I1 ru r
end
def iJ:PV->List PV->PH->Rs PV:=fun x ps h=>match x,ps with
 | .ref n,[.str z]=>match aN h n with
  | some ys=>match Av ys with
   | some ss=>if ss.idxOf z < ss.length then .ok (.int (ss.idxOf z:Nat)) h else .bad
   | none=>.bad
  | none=>.bad
 | _,_=>.bad
section
variable {C:MC} {k:Nat} {X:Cx}
theorem BV:MtS C k X "list" isL "list.index" iJ:=fun c=>⟨fun pins s σ H x xs v us Q I rx rv h=>by
 obtain ⟨φ,h,p,ps,rh,rp,rs,po⟩:=h;unfold iJ at po;split at po
 ·rename_i n z;split at po
  ·rename_i ys e;split at po
   ·rename_i ss es;obtain ⟨hlt,po⟩:=po.ite;obtain ⟨a,rfl,ha⟩:=rp;cases rx
    obtain ⟨v2,rfl,rz⟩:=rs.one;cases rz
    obtain ⟨u,rfl,ru⟩:=vals1 rv;obtain ⟨t,rfl⟩:=ru;obtain ⟨a2,vs,ha2,sq,rvs⟩:=bN rh e;rw [ha] at ha2; cases ha2;rw [<- c.K] at sq;obtain ⟨its,ri,pl,hz⟩:=I.list sq;have ey:=DG es;subst ey;have hi:∀ (m:Nat) (x:Str),ss[m]?=some x->∃ t,its[m]?=some (.str x t):=fun m x hm=>by
     obtain ⟨w,hw,rw'⟩:=rvs.at (i:=m) (x:=.str x) (by rw [au,hm]; rfl);cases rw'
     obtain ⟨y,hy,ry⟩:=ri.get hw;obtain ⟨t',rfl⟩:=ry;exact ⟨t',hy⟩
    have hl:its.length=ss.length:=by
     have h1:=rvs.length;have h2:=ri.length;rw [ae] at h1;omega
    obtain ⟨ob,n',ge0,hcl,hdi,hda⟩:=pl;have ge:s.heap.get? a=some { cls:=.type "list",dict:=none,data:=.seq its.toArray n',slots:=ob.slots }:=by
     rw [ge0];cases ob
     simp only at hcl hdi hda;rw [hcl,hdi,hda]
    let e:Value->Bool:=fun y=>match y with | .str a _=>a == z | _=>false
    have hget:∀ (m:Nat) (hm:m < its.toArray.size),∃ t,its.toArray[m]=.str (ss[m]'(by simpa [hl] using hm)) t:=fun m hm=>by
     have hm':m < ss.length:=by simpa [hl] using hm
     obtain ⟨t',ht⟩:=hi m ss[m] (by simp [hm']);refine ⟨t',?_⟩;have:=(ab.mp ht).2;simpa using this
    refine call_meets F.slot_list_index ⟨_,ge,rfl⟩ F.entry_list_index (F.args_list_index_2 _ _) (list_indexAt a its.toArray n' none ob.slots (.str z t) e (ss.idxOf z) (by simpa [hl] using hlt) ?_ ?_ ?_) ⟨ge,?_,?_⟩
    ·have:=hz;have h1:=ri.length;rw [c6] at this;omega
    ·obtain ⟨t',ht⟩:=hget (ss.idxOf z) (by simpa [hl] using hlt)
     rw [ht]
     show (ss[ss.idxOf z] == z)=true
     simp
    ·intro m hm hlt2;obtain ⟨t',ht⟩:=hget m hm;rw [ht]
     show (ss[m] == z)=false
     have:=List.not_of_lt_findIdx (p:=fun x=>x == z) (xs:=ss) (i:=m) hlt2;simpa using this
    ·intro y hy;obtain ⟨m,hm,rfl⟩:=Array.getElem_of_mem hy;obtain ⟨t',ht⟩:=hget m hm;rw [ht];exact EqAt.str_str _ _ _ _
    ·exact ⟨.int (ss.idxOf z:Nat),H,I.kept (t':=s.toks+1) fun _ _ e=>e,⟨_,rfl⟩,po.val rh rfl⟩
   ·exact po.elim
  ·exact po.elim
 ·exact po.elim,fun φ H h p x rh rv e=>LS rh rv e⟩
theorem sI {h:PH} {n:Nat} {ss:List Str} {z:Str} (e:h[n]?=some (.lst (ss.map PV.str))) (hz:z∈ss):iJ (.ref n) [.str z] h=.ok (.int (ss.idxOf z:Nat)) h:=by
 have e1:aN h n=some (ss.map PV.str):=by simp [aN,e]
 simp only [iJ,e1,DF];rw [if_pos (jy.mpr hz)]
end
end L2
namespace K79
open PySem L2
noncomputable section
def AG:Ms:=
 (aZ (bO 5 (aD vAt (mC (.str "abcdefghijklmnopqrstuvwxyz")) (aD gW (aD bK (aD oA (mV 0) (mC (.int 64))) (aD Bx (mV 4) (aD bK (mC (.int 1)) (aD gW (aD oA (mV 0) (mC (.int 3))) (mC (.int 8)))))) (mC (.int 26)))))
  (Dr (mMt isL (onL dQ) (mV 3) (aB (aD bK (aD bK (aD Jr (mC (.str "k")) (mV 2)) (mV 5)) (aD Jr (mC (.str "k")) (aD FK (aD FK (mV 1) (mC (.int 1))) (mV 2)))) aI))))
def BW:Ms:=
 (aZ (bO 1 (aD bK (mC (.int 1)) (aD gW (mV 0) (mC (.int 8)))))
 (aZ (bO 2 (aD gW (aD oA (mV 0) (mC (.int 8))) (mV 1)))
 (aZ (bO 3 (rZ aI))
 (aZ (kH (kX (aB (aD bK (mC (.int 1)) (aD gW (aD oA (mV 0) (mC (.int 5))) (mC (.int 6)))) aI)) (gN 4) AG)
 (cB (mV 3))))))
def vB:Fn:=mFn 6 BW
def lJ:Ms:=
 (cB (aD vAt (aD vAt (mV 0) (mC (.int 0))) (mC (.int 1))))
def cS:Fn:=mFn 1 lJ
def sJ:Ms:=
 (cB (Im cS (aY [none,some 0] (aX (mV 1)) (gN 0) (bI (aD vEq (aD vAt (aD vAt (mV 0) (mC (.int 0))) (mC (.int 0))) (mV 1))) (mV 0))))
def iW:Fn:=mFn 2 sJ
def qH:Ms:=
 (cB (aD bK (mC (.int 1)) (mCB M7 (aB (aY [none] (aX (aD vAt (mV 0) (mC (.int 1)))) (gN 0) dJ (aD vAt (mV 0) (mC (.int 1)))) aI))))
def dU:Fn:=mFn 1 qH
def BX:Ms:=
 (aZ (bO 2 (aY [none] (aX (mV 1)) (gN 0) (bI (aD vEq (aD vAt (aD vAt (mV 0) (mC (.int 2))) (mC (.int 0))) (mC (.str "settle")))) (mV 0)))
 (aZ (bO 3 (aY [none,some 2] (aX (mV 0)) (gN 0) dJ (bE 2 iW (aB (mV 0) (aB (mV 1) aI)))))
 (cB (mCB AB (aB (aY [none] (aX (mV 3)) (gN 0) dJ (mIf (bI (aD vIs (mV 0) (mC .non))) (mC (.int 0)) (bE 1 dU (aB (mV 0) aI)))) aI)))))
def mL:Fn:=mFn 4 BX
def xJ:Ms:=
 (qE (mCB qG (aB (mV 4) (aB (mMt eD FW (mV 2) (aB (mV 3) (aB (mV 4) aI))) aI))) (mV 2) (mV 3))
def xK:Ms:=
 (aZ (bO 2 (mCB BR (aB (mV 0) aI)))
 (aZ (kH (aX (mV 1)) (gTp 2 (gCn (gN 3) (gCn (gN 4) gNl))) xJ)
 (cB (mCB sA (aB (mCB hZ (aB (Pv eD wV (mV 2)) aI)) aI)))))
def qI:Fn:=mFn 5 xK
def sL:Ms:=
 (cB (bE 2 qI (aB (mV 0) (aB (jQ (aB (mV 1) aI)) aI))))
def mM:Fn:=mFn 2 sL
def BY:Ms:=
 (aZ (bO 2 (bE 2 iW (aB (mV 0) (aB (mV 1) aI))))
 (cB (mIf (bI (aD vIs (mV 2) (mC .non))) (jQ aI) (bE 2 mM (aB (aD vAt (mV 2) (mC (.int 1))) (aB (aD vAt (mV 2) (mC (.int 0))) aI))))))
def vC:Fn:=mFn 3 BY
def G3:Ms:=
 (aZ (Jk (aD vAt (mV 0) (mC (.int 0))) (gTp 2 (gCn (gN 1) (gCn (gN 2) gNl))))
 (cB (jQ (aB (bE 1 dU (aB (mV 0) aI)) (aB (mV 1) (aB (mV 2) aI))))))
def sM:Fn:=mFn 3 G3
def qJ:Ms:=
 (qE (mV 2) (mV 1) (aD vAt (mV 2) (mC (.int 0))))
def oJ:Ms:=
 (aZ (bO 1 wH)
 (aZ (kH (aX (mV 0)) (gN 2) qJ)
 (cB (sG sM false (Pv eD DE (mV 1))))))
def dC:Fn:=mFn 3 oJ
def xM:Ms:=
 (iD (bI (aD vEq (mV 2) (aD vAt (mV 1) (mC (.int 0)))))
   (cB (aD vLe (aD vAt (mV 1) (mC (.int 1))) (mV 3)))
   kG)
def xN:Ms:=
 (aZ (kH (aX (mV 0)) (gTp 2 (gCn (gN 2) (gCn (gN 3) gNl))) xM)
 (cB (mC (.bl false))))
def fE:Fn:=mFn 4 xN
def G4:Ms:=
 (aZ (bO 2 (bE 2 mL (aB (mV 0) (aB (mV 1) aI))))
 (aZ (bO 3 (aY [none,some 2] (aX (bE 1 dC (aB (mV 1) aI))) (gN 0) (bI (aD vLe (bE 1 dU (aB (mV 0) aI)) (mV 1))) (aD vAt (mV 0) (mC (.int 0)))))
 (aZ (bO 4 (aY [none,some 1] (aX (mV 0)) (gN 0) dJ (bE 2 vC (aB (mV 0) (aB (mV 1) aI)))))
 (cB (aY [none,some 4] (aX (mV 3)) (gN 0) (bI (mCB FT (aB (aY [none,some 0] (aX (mV 1)) (gN 0) dJ (bE 2 fE (aB (mV 0) (aB (mV 1) aI)))) aI))) (mV 0))))))
def BZ:Fn:=mFn 5 G4
def G5:Ms:=
 (cB (mCB sA (aB (mCB hZ (aB (aY [none,some 0,some 1] (kX (aB (mCB gX (aB (mV 0) aI)) aI)) (gN 0) (bI (aD vGt (aD vAt (mV 2) (mV 0)) (mC (.int 0)))) (jQ (aB (aD vAt (mV 1) (mV 0)) (aB (aD vAt (mV 2) (mV 0)) aI)))) aI)) aI)))
def xO:Fn:=mFn 2 G5
def C0:Ms:=
 (aZ (iD (tU (bI (aD vEq (aD gW (mV 0) (mC (.int 2))) (mC (.int 1)))) (bI (aD vGt (mV 0) (aD LH (mC (.int 10)) (mC (.int 9))))))
  (cB (aD gW (aD oA (mV 0) (mC (.int 2))) (aD LH (mC (.int 10)) (mC (.int 9)))))
  kG)
 (aZ (bO 2 (aD gW (aD Bx (aD bK (aD bK (mV 0) (aD Bx (mC (.int 7919)) (mV 1))) (mC (.int 1))) (mC (.int 48271))) (mC (.int 2147483647))))
 (cB (aD gW (aD Bx (mV 2) (aD bK (aD oA (mV 2) (mC (.int 1009))) (mC (.int 69621)))) (mC (.int 2147483647))))))
def qK:Fn:=mFn 3 C0
def MB:Ms:=
 (aZ (bO 3 (bE 2 qK (aB (mV 2) (aB (mC (.int 1)) aI))))
 (aZ (iD (bI (aD jZ (mV 0) (mC (.int 2))))
  (cB (jQ (aB (mC (.str "settle")) aI)))
  kG)
 (aZ (iD (tU (bI (aD vEq (mV 0) (mC (.int 2)))) (bI (aD vGt (mV 1) (mC (.int 0)))))
  (aZ (bO 4 (aD bK (mC (.int 1)) (aD gW (mV 3) (mV 1))))
  (cB (jQ (aB (mC (.str "back")) (aB (mV 4) (aB (aD bK (mV 4) (aD gW (aD oA (mV 3) (mC (.int 64))) (aD FK (aD bK (mV 1) (mC (.int 1))) (mV 4)))) aI))))))
  kG)
 (cB (jQ (aB (mC (.str "add")) (aB (jQ (aB (mC (.str "t")) (aB (mC (.int 1)) aI))) (aB (aD gW (mV 2) (aD LH (mC (.int 10)) (mC (.int 39)))) aI))))))))
def DU:Fn:=mFn 5 MB
def G6:Ms:=
 (aZ (bO 4 (aD gW (mV 3) (mCB gX (aB (mV 2) aI))))
 (aZ (bO 5 (mCB Dq (aB (aD vAt (mV 1) (mV 4)) aI)))
 (aZ (bO 6 (aD gW (aD oA (mV 3) (mCB gX (aB (mV 2) aI))) (mC (.int 8))))
 (aZ (iD (bI (aD jZ (mV 6) (mC (.int 5))))
  (aZ (bO 7 (jQ (aB (aD vAt (mV 2) (mV 4)) (aB (aD bK (aD vAt (mV 5) (mV 4)) (mC (.int 1))) aI))))
  (aZ (bO 8 (jQ (aB (mV 7) (aB (bE 2 xO (aB (mV 2) (aB (mV 5) aI))) (aB (bE 3 DU (aB (mV 6) (aB (aD vAt (mV 5) (mV 4)) (aB (aD oA (mV 3) (mC (.int 32))) aI)))) aI)))))
  (aZ (qE (aD bK (aD vAt (mV 5) (mV 4)) (mC (.int 1))) (mV 5) (mV 4))
  (Dr (mMt isL (onL dQ) (mV 0) (aB (jQ (aB (mV 8) (aB (mV 5) aI))) aI))))))
  (aZ (bO 9 (aD gW (aD bK (aD bK (mV 4) (mC (.int 1))) (aD gW (aD oA (mV 3) (mC (.int 32))) (mCB qG (aB (mC (.int 1)) (aB (aD FK (mCB gX (aB (mV 2) aI)) (mC (.int 1))) aI))))) (mCB gX (aB (mV 2) aI))))
  (aZ (bO 10 (aD vAt (mV 1) (mV 9)))
  (aZ (bO 11 (aY [none,some 2,some 9] (aX (mV 0)) (gN 0) (bI (aD vEq (aD vAt (aD vAt (aD vAt (mV 0) (mC (.int 0))) (mC (.int 0))) (mC (.int 0))) (aD vAt (mV 1) (mV 2)))) (mV 0)))
  (aZ (iD (tU (bI (aD jZ (mV 6) (mC (.int 7)))) (bI (aD Q4 (mV 11) (rZ aI))))
   (bO 10 (aD vAt (aD vAt (mV 11) (aD gW (aD oA (mV 3) (mC (.int 64))) (mCB gX (aB (mV 11) aI)))) (mC (.int 1))))
   kG)
  (bO 5 (aY [none,some 5,some 10] (kX (aB (mCB gX (aB (mV 2) aI)) aI)) (gN 0) dJ (mCB qG (aB (aD vAt (mV 1) (mV 0)) (aB (aD vAt (mV 2) (mV 0)) aI))))))))))
 (cB (aD bK (aD bK (mSl (mV 1) BB (mP (mV 4))) (rZ (aB (mV 5) aI))) (mSl (mV 1) (mP (aD bK (mV 4) (mC (.int 1)))) BB)))))))
def C1:Fn:=mFn 12 G6
def C2:Ms:=
 (cB (aY [none,some 2,some 1] (aX (mV 0)) (gN 0) (bI (aD vLe (aD vAt (aD vAt (mV 0) (mC (.int 0))) (mC (.int 1))) (aD vAt (mV 1) (mMt isL iJ (mV 2) (aB (aD vAt (aD vAt (mV 0) (mC (.int 0))) (mC (.int 0))) aI))))) (mV 0)))
def vD:Fn:=mFn 3 C2
def C3:Ms:=
 (cB (aD jZ (bE 1 sM (aB (mV 0) aI)) (bE 1 sM (aB (mV 1) aI))))
def qL:Fn:=mFn 2 C3
def sN:Ms:=
 (iD (bI (aD cT (mV 6) (mV 1)))
   (aZ (iD (FN (bI (aD vLe (bE 1 dU (aB (mV 6) aI)) (mV 4))) (Am (bI (mCB FT (aB (aY [none,some 6] (aX (mV 3)) (gN 0) dJ (bE 2 fE (aB (aD vAt (mV 1) (mC (.int 1))) (aB (mV 0) aI)))) aI)))))
    (cB (mC (.bl false)))
    kG)
   (iD (Am (bI (mCB FT (aB (aY [none,some 6] (aX (mV 5)) (gN 0) dJ (bE 2 qL (aB (mV 0) (aB (mV 1) aI)))) aI))))
    (cB (mC (.bl false)))
    kG))
   kG)
def C4:Ms:=
 (aZ (bO 5 (aY [none,some 3] (aX (mV 1)) (gN 0) (bI (aD zK (aD vAt (mV 0) (mC (.int 0))) (mV 1))) (mV 0)))
 (aZ (kH (aX (mV 2)) (gTp 2 (gCn (gN 6) (gCn (gN 7) gNl))) sN)
 (cB (mC (.bl true)))))
def vE:Fn:=mFn 8 C4
def sO:Ms:=
 (cB (aD vAt (mV 0) (mC (.int 0))))
def iX:Fn:=mFn 1 sO
def qM:Ms:=
 (aZ (Jk (aD vAt (mV 2) (mC (.int 2))) (gTp 3 (gCn (gN 3) (gCn (gN 4) (gCn (gN 5) gNl)))))
  (iD (bI (LN vLe vLe (mV 4) (mV 0) (mV 5)))
   (cB (aD vAt (mV 2) (mC (.int 0))))
   kG))
def oK:Ms:=
 (aZ (kH (aX (mV 1)) (gN 2) qM)
 (cB (mC .non)))
def jT:Fn:=mFn 6 oK
def xP:Ms:=
 (aZ (Jk (aD vAt (mV 3) (mC (.int 0))) (gTp 2 (gCn (gN 4) (gCn (gN 5) gNl))))
  (aZ (bO 6 (aD vAt (aD vAt (mV 3) (mC (.int 2))) (mC (.int 0))))
  (aZ (iD (bI (aD vEq (mV 6) (mC (.str "settle"))))
   (aZ (qE (rZ aI) (mV 2) (mV 4))
   Tx)
   kG)
  (aZ (bO 7 (bE 2 jT (aB (mV 5) (aB (mMt eD FW (mV 2) (aB (mV 4) (aB (rZ aI) aI))) aI))))
  (iD (bI (aD wF (mV 7) (mC .non)))
   (qE (mV 7) (mV 1) (aD vAt (mV 3) (mC (.int 0))))
   (iD (bI (aD vEq (mV 6) (mC (.str "back"))))
    (Dr (mMt isL (onL dQ) (mMt eD mK (mV 2) (aB (mV 4) (aB (rZ aI) aI))) (aB (mV 3) aI)))
    kG))))))
def xQ:Ms:=
 (aZ (bO 1 wH)
 (aZ (bO 2 wH)
 (aZ (kH (aX (sG iX true (mV 0))) (gN 3) xP)
 (cB (mV 1)))))
def qN:Fn:=mFn 8 xQ
def oM:Ms:=
 (aZ (bO 1 (bE 1 dC (aB (mV 0) aI)))
 (aZ (bO 2 (bE 1 qN (aB (mV 1) aI)))
 (cB (aY [none,some 2] (aX (mV 1)) (gN 0) (bI (aD cT (aD vAt (mV 0) (mC (.int 0))) (mV 1))) (mV 0)))))
def gR:Fn:=mFn 3 oM
def sP:Ms:=
 (aZ (bO 2 (bE 2 mL (aB (mV 0) (aB (mV 1) aI))))
 (cB (aY [none,some 2] (aX (bE 1 gR (aB (mV 1) aI))) (gN 0) (bI (aD vLe (bE 1 dU (aB (mV 0) aI)) (mV 1))) (mV 0))))
def fT:Fn:=mFn 3 sP
def fM:Ms:=
 (aZ (bO 8 (aY [none,some 1,some 7,some 0] (aX (mV 2)) (gN 0) (FN (bI (aD zK (aD vAt (mV 0) (mC (.int 0))) (mV 1))) (bI (aD vLe (aD vAt (aD vAt (aD vAt (mV 0) (mC (.int 0))) (mC (.int 0))) (mC (.int 1))) (aD vAt (mV 2) (mMt isL iJ (mV 3) (aB (aD vAt (aD vAt (aD vAt (mV 0) (mC (.int 0))) (mC (.int 0))) (mC (.int 0))) aI)))))) (aD vAt (mV 0) (mC (.int 0)))))
  (iD (bI (aD vNe (aY [none,some 3] (aX (bE 2 fT (aB (mV 0) (aB (mV 8) aI)))) (gN 0) (bI (aD vLe (bE 1 dU (aB (mV 0) aI)) (mV 1))) (mV 0)) (mV 4)))
   (cB (mC (.bl false)))
   kG))
def iK:Ms:=
 (aZ (bO 4 (bE 2 fT (aB (mV 0) (aB (mV 1) aI))))
 (aZ (bO 5 (aY [none,some 1] (aX (mV 2)) (gN 0) (tU (bI (aD vEq (aD vAt (aD vAt (aD vAt (mV 0) (mC (.int 0))) (mC (.int 2))) (mC (.int 0))) (mC (.str "back")))) (bI (aD cT (aD vAt (mV 0) (mC (.int 0))) (mV 1)))) (mV 0)))
 (aZ (kH (aX (mSl (mV 5) BB (mP (mC (.int 3))))) (gTp 2 (gCn (gN 6) (gCn (gN 7) gNl))) fM)
 (cB (mC (.bl true))))))
def fB:Fn:=mFn 9 iK
def C5:Ms:=
 (Dr (mMt isL (onL dQ) (mV 4) (aB (bE 4 C1 (aB (mV 3) (aB (aD vAt (mV 4) (mUn LJ (mC (.int 1)))) (aB (mV 2) (aB (mV 5) aI))))) aI)))
def C6:Ms:=
 (iD (bI (aD vNe (aY [none,some 10,some 2] (aX (mV 9)) (gN 0) (bI (aD vGt (aD vAt (mV 0) (mC (.int 1))) (aD vAt (mV 1) (mMt isL iJ (mV 2) (aB (aD vAt (mV 0) (mC (.int 0))) aI))))) (mV 0)) (rZ aI)))
    (cB (mC (.bl false)))
    kG)
def C7:Ms:=
 (aZ (bO 8 (mUn AA (bE 3 vD (aB (aY [none] (aX (mV 3)) (gN 0) dJ (aD vAt (mV 0) (mC (.int 0)))) (aB (mV 2) (aB (aD vAt (mV 6) (mV 7)) aI))))))
  (aZ (bO 9 (bE 2 BZ (aB (mV 2) (aB (mV 8) aI))))
  (aZ (kH (aX (mV 6)) (gN 10) C6)
  (aZ (bO 11 (bE 2 mL (aB (mV 2) (aB (mV 8) aI))))
  (iD (FN (Am (bI (bE 5 vE (aB (mV 2) (aB (mV 8) (aB (mV 3) (aB (mV 9) (aB (mV 11) aI)))))))) (Am (bI (bE 4 fB (aB (mV 2) (aB (mV 8) (aB (mV 3) (aB (mV 11) aI))))))))
   (cB (mC (.bl false)))
   kG)))))
def MD:Ms:=
 (aZ (bO 1 (mC (.int 0)))
 (aZ (iD (bI (aD vGt (mCB gX (aB (mV 0) aI)) (mC (.int 0))))
  (bO 1 (aD vAt (mV 0) (mC (.int 0))))
  kG)
 (aZ (bO 2 (bE 1 vB (aB (mV 1) aI)))
 (aZ (bO 3 (rZ aI))
 (aZ (bO 4 (rZ (aB (aY [none,some 2] (aX (mV 2)) (gN 0) dJ (aY [none] (aX (mV 1)) (gN 0) dJ (mC (.int 0)))) aI)))
 (aZ (kH (aX (mSl (mV 0) (mP (mC (.int 1))) (mP (mC (.int 51))))) (gN 5) C5)
 (aZ (bO 6 (aD vAt (mV 4) (aD gW (aD oA (mV 1) (mC (.int 7))) (mCB gX (aB (mV 4) aI)))))
 (aZ (kH (kX (aB (mCB gX (aB (mV 2) aI)) aI)) (gN 7) C7)
 (cB (mC (.bl true)))))))))))
def ME:Fn:=mFn 12 MD
end
end K79
namespace K79
open PySem L2
abbrev Seen:=List (Str×Int)
def ltS (a b:Str):Prop:=a.cps.toList < b.cps.toList
def look:Seen->Str->Option Int
 | [],_=>none
 | p :: r,h=>if p.1=h then some p.2 else look r h
theorem fU (p:Str×Int) (r:Seen) (h:Str):look (p :: r) h=if p.1=h then some p.2 else look r h:=(rfl)
def Asc (S:Seen):Prop:=S.Pairwise fun a b=>ltS a.1 b.1
def dput (kvs:Seen) (h:Str) (n:Int):Seen:=if (look kvs h).isSome then kvs.map (fun p=>if p.1=h then (p.1,n) else p) else kvs++[(h,n)]
def emb (kvs:Seen):List (Key×PV):=kvs.map fun p=>(.inr p.1,.int p.2)
def row (p:Str×Int):List Key:=[.inr p.1,.inl p.2]
def sv (S:Seen):PV:=.tup (S.map fun p=>.tup [.str p.1,.int p.2])
theorem xR (h:Str):∀ kvs:Seen,aW (emb kvs) (.inr h)=(look kvs h).map PV.int
 | []=>rfl
 | p :: r=>by
  show aW ((md p.1,PV.int p.2) :: emb r) (.inr h)=_
  unfold aW look
  by_cases e:p.1=h
  ·rw [if_pos e,if_pos (by rw [e])]; rfl
  ·rw [if_neg e,if_neg (by simpa using e)]; exact xR h r
theorem Iq (kvs:Seen) (h:Str) (n:Int):dM (emb kvs) (.inr h) (.int n)=emb (dput kvs h n):=by
 unfold dM dput;rw [xR];cases look kvs h with
 | none=>simp [emb]
 | some m=>
  simp only [Option.map_some,jd,if_true];unfold emb;rw [cj,cj];apply d0;intro p _
  by_cases e:p.1=h
  ·simp [e]
  ·simp [e]
theorem sQ {S:Seen} {h:Str}:look S h=none ↔ ∀ p∈S,p.1≠h:=by
 induction S with
 | nil=>simp [look]
 | cons p r ih=>
  unfold look
  by_cases e:p.1=h
  ·simp [e]
  ·simp [e,ih]
theorem qO {S:Seen} {h:Str} {n:Int} (e:look S h=some n):(h,n)∈S:=by
 induction S with
 | nil=>cases e
 | cons p r ih=>
  unfold look at e;split at e
  ·rename_i z;cases e
   rw [<- z];exact aj
  ·exact ao _ (ih e)
theorem MF {S T:Seen} {h:Str}:look (S++T) h=(look S h).or (look T h):=by
 induction S with
 | nil=>simp [look]
 | cons p r ih=>
  show look (p :: (r++T)) h=_
  rw [fU,fU];split
  ·simp
  ·exact ih
theorem MG {S:Seen} {h h':Str} {n:Int}:look (S.map fun p=>if p.1=h then (p.1,n) else p) h'=(look S h').map fun m=>if h'=h then n else m:=by
 induction S with
 | nil=>rfl
 | cons p r ih=>
  rw [ay]
  by_cases e:p.1=h
  ·rw [if_pos e];unfold look
   by_cases e':p.1=h'
   ·rw [if_pos e',if_pos e'];simp [<- e',e]
   ·rw [if_neg e',if_neg e']; exact ih
  ·rw [if_neg e];unfold look
   by_cases e':p.1=h'
   ·have:¬ h'=h:=fun z=>e (e'.trans z);rw [if_pos e',if_pos e'];simp [this]
   ·rw [if_neg e',if_neg e']; exact ih
theorem DV (S:Seen) (h h':Str) (n:Int):look (dput S h n) h'=if h'=h then some n else look S h':=by
 unfold dput;cases e:look S h with
 | some m=>
  simp only [jd,if_true];rw [MG]
  by_cases z:h'=h
  ·subst z; simp [e]
  ·simp [z]
 | none=>
  simp only [Option.isSome_none,dt,if_false];rw [MF]
  by_cases z:h'=h
  ·subst z; simp [e,look]
  ·have z':¬ h=h':=fun q=>z q.symm;simp [look,z,z']
theorem keys_map {S:Seen} {h:Str} {n:Int}:(S.map fun p=>if p.1=h then (p.1,n) else p).map (·.1)=S.map (·.1):=by
 rw [cj];apply d0;intro p _
 by_cases e:p.1=h <;> simp [e]
theorem JH {S:Seen} {h:Str} {n:Int} (hn:(S.map (·.1)).Nodup):((dput S h n).map (·.1)).Nodup:=by
 unfold dput;cases e:look S h with
 | some m=>simp only [jd,if_true]; rw [keys_map]; exact hn
 | none=>
  simp only [Option.isSome_none,dt,if_false];rw [cz,i4];refine ⟨hn,by simp,fun x hx y hy=>?_⟩;obtain ⟨p,hp,rfl⟩:=aq.mp hx;have:y=h:=by simpa using hy
  subst this;exact sQ.mp e p hp
theorem Q6 {S:Seen} {h:Str} {n:Int}:(dput S h n).length<=S.length+1:=by
 unfold dput;split <;> simp
theorem iY {S:Seen} (hn:(S.map (·.1)).Nodup) {p:Str×Int} (hp:p∈S):look S p.1=some p.2:=by
 induction S with
 | nil=>cases hp
 | cons q r ih=>
  rw [ay,fu] at hn;unfold look;rcases bc.mp hp with rfl | hp
  ·simp
  ·have:¬ q.1=p.1:=fun z=>hn.1 (z ▸ aq.mpr ⟨p,hp,rfl⟩);rw [if_neg this];exact ih hn.2 hp
theorem Q7 (a:Str):¬ ltS a a:=List.lt_irrefl _
theorem fV {S:Seen} (h:Asc S):(S.map (·.1)).Nodup:=by
 unfold List.Nodup;rw [df];exact h.imp fun {a b} q e=>by rw [e] at q; exact Q7 _ q
def d1 (one:Seen):Seen:=one.foldl (fun acc p=>dput acc p.1 p.2) []
def fH (acc:Seen) (p:Str×Int):Seen:=dput acc p.1 (if (look acc p.1).getD p.2 > p.2 then (look acc p.1).getD p.2 else p.2)
def d2 (one other:Seen):Seen:=other.foldl fH (d1 one)
def mx:Option Int->Option Int->Option Int
 | none,o=>o
 | some n,none=>some n
 | some n,some m=>some (if m > n then m else n)
theorem Ir:∀ (one:Seen) (acc:Seen),(one.map (·.1)).Nodup->∀ h,look (one.foldl (fun acc p=>dput acc p.1 p.2) acc) h=(look one h).or (look acc h)
 | [],acc,_,h=>by simp [look]
 | p :: r,acc,hn,h=>by
  rw [ay,fu] at hn;rw [List.foldl_cons,Ir r _ hn.2,DV]
  show _=(look (p :: r) h).or _
  rw [fU]
  by_cases e:p.1=h
  ·have:look r h=none:=sQ.mpr fun q hq z=>hn.1 (by rw [e,<- z]; exact aq.mpr ⟨q,hq,rfl⟩);rw [if_pos e.symm,if_pos e,this];rfl
  ·rw [if_neg fun z=>e z.symm,if_neg e]
theorem AH:∀ (other:Seen) (acc:Seen),(other.map (·.1)).Nodup->∀ h,look (other.foldl fH acc) h=mx (look other h) (look acc h)
 | [],acc,_,h=>rfl
 | p :: r,acc,hn,h=>by
  rw [ay,fu] at hn;rw [List.foldl_cons,AH r _ hn.2];unfold fH;rw [DV]
  show _=mx (look (p :: r) h) _
  rw [fU]
  by_cases e:p.1=h
  ·have:look r h=none:=sQ.mpr fun q hq z=>hn.1 (by rw [e,<- z]; exact aq.mpr ⟨q,hq,rfl⟩);rw [if_pos e.symm,if_pos e,this,e];cases look acc h with
   | none=>simp [mx]
   | some m=>simp [mx]
  ·rw [if_neg fun z=>e z.symm,if_neg e]
theorem oO:∀ (other:Seen) (acc:Seen) (f:Seen->Str×Int->Int),(acc.map (·.1)).Nodup->((other.foldl (fun a p=>dput a p.1 (f a p)) acc).map (·.1)).Nodup
 | [],_,_,h=>h
 | _ :: r,_,f,h=>oO r _ f (JH h)
theorem qP:∀ (other:Seen) (acc:Seen) (f:Seen->Str×Int->Int),(other.foldl (fun a p=>dput a p.1 (f a p)) acc).length<=acc.length+other.length
 | [],_,_=>ai _
 | p :: r,acc,f=>by
  have h1:=qP r (dput acc p.1 (f acc p)) f;have h2:=Q6 (S:=acc) (h:=p.1) (n:=f acc p);rw [List.foldl_cons,da];omega
def DW:List Key->Str×Int
 | [.inr x,.inl n]=>(x,n)
 | _=>("",0)
theorem MH {a b:Str} (h:a.cps.toList=b.cps.toList):a=b:=by
 obtain ⟨x⟩:=a;obtain ⟨y⟩:=b
 congr 1
 exact Array.toList_inj.mp h
theorem Q8 {a b:Str×Int} (h:bM (row b) (row a)=false) (hne:a.1≠b.1):ltS a.1 b.1:=by
 unfold row bM at h;rw [if_neg (fun z=>hne (by injection z with z; exact z.symm))] at h;have h':¬ b.1.cps.toList < a.1.cps.toList:=by simpa [keyLt] using h
 rcases Classical.em (a.1.cps.toList < b.1.cps.toList) with q | q
 ·exact q
 ·exact absurd (MH (List.le_antisymm h' q)) hne
theorem uD {D:Seen} (hn:(D.map (·.1)).Nodup):∃ S:Seen,cR (D.map row)=S.map row/\S.Perm D/\Asc S:=by
 have hp:=fD (D.map row);have e1:(D.map row).map DW=D:=by
  rw [cj]
  conv=>rhs; rw [<- List.map_id D]
  rfl
 have p2:((cR (D.map row)).map DW).Perm D:=by
  have:=hp.map DW
  rwa [e1] at this
 have e2:((cR (D.map row)).map DW).map row=cR (D.map row):=by
  rw [cj]
  conv=>rhs; rw [<- List.map_id (cR (D.map row))]
  apply d0;intro z hz;obtain ⟨p,_,rfl⟩:=aq.mp (hp.mem_iff.mp hz);rfl
 refine ⟨_,e2.symm,p2,?_⟩;have s1:(cR (D.map row)).Pairwise (fun a b=>bM b a=false):=iG (S:=[false,true]) fun y hy=>by
  obtain ⟨p,_,rfl⟩:=aq.mp hy; rfl
 rw [<- e2,df] at s1;have n1:(((cR (D.map row)).map DW).map (·.1)).Nodup:=(p2.map (·.1)).nodup_iff.mpr hn;unfold List.Nodup at n1;rw [df] at n1;exact (s1.and n1).imp fun {a b} h=>Q8 h.1 h.2
theorem AI:∀ S:Seen,lG (S.map fun p=>PV.tup [.str p.1,.int p.2])=some (emb S)
 | []=>rfl
 | p :: r=>by
  rw [ay];unfold lG;rw [AI r];rfl
theorem AJ:∀ (S acc:Seen),sE (emb acc) (emb S)=emb (S.foldl (fun acc p=>dput acc p.1 p.2) acc)
 | [],_=>rfl
 | p :: r,acc=>by
  show sE (dM (emb acc) (.inr p.1) (.int p.2)) (emb r)=_
  rw [Iq,AJ r];rfl
theorem AK (D:Seen):nI (D.map row)=true:=by
 cases D with
 | nil=>rfl
 | cons p r=>
  rw [ay];unfold nI;rw [cq];refine ⟨rfl,cw.mpr fun z hz=>?_⟩;obtain ⟨q,_,rfl⟩:=aq.mp hz;rfl
theorem AL {n:Nat} {h:PH} {S:Seen} (e:h[n]?=some (.lst ((S.map row).map tP))):sA [.ref n] h=.ok (sv S) h:=by
 simp [sA,aN,e];unfold sv
 congr 1
theorem JI (one other:Seen) (n1:(one.map (·.1)).Nodup) (n2:(other.map (·.1)).Nodup) (hl:one.length+other.length < 64) (h:PH) (Q:PV->PH->Prop)
  (k:∀ S h',Ext h h'->Asc S->S.length<=one.length+other.length->(∀ x,look S x=mx (look other x) (look one x))->Q (sv S) h'):(qI [sv one,sv other] h).W Q:=by
 refine eK ?_;have m0:sE [] (emb one)=emb (d1 one):=AJ one [];have hd1:(d1 one).length<=one.length:=by
  have h0:(d1 one).length<=([]:Seen).length+one.length:=qP one [] (fun _ p=>p.2);simpa using h0
 have ed:∀ h,BR [.tup (one.map fun p=>PV.tup [.str p.1,.int p.2])] h=wR [.tup (one.map fun p=>PV.tup [.str p.1,.int p.2])] h:=fun h=>rfl;simp [xK,aL,sv,ed,DC (AI one),m0];refine now ?_;rw [aL];refine LY (xs:=other.map fun p=>PV.tup [.str p.1,.int p.2]) (fun q δ h'=>h'=h++[.dK (emb ((other.take q).foldl fH (d1 one)))]/\∃ x3 x4,δ=[some (sv one),some (sv other),some (.ref h.length),x3,x4]) ?_ ?_ ?_ ?_
 ·left; simp [sv]
 ·exact ⟨by simp,_,_,rfl⟩
 ·rintro q x δ h' hx ⟨rfl,x3,x4,rfl⟩;rw [au] at hx;obtain ⟨p,hp,rfl⟩:=a7.mp hx;refine ⟨_,rfl,?_⟩;have g:(h++[MO.dK (emb ((other.take q).foldl fH (d1 one)))])[h.length]?=some (.dK (emb ((other.take q).foldl fH (d1 one)))):=aK;have hlen:(emb ((other.take q).foldl fH (d1 one))).length < 16777216:=by
   unfold emb;rw [ae];have:=qP (other.take q) (d1 one) (fun acc p=>if (look acc p.1).getD p.2 > p.2 then (look acc p.1).getD p.2 else p.2);have e:(List.take q other).length<=other.length:=by rw [d9]; omega
   show ((other.take q).foldl fH (d1 one)).length < _
   have:((other.take q).foldl fH (d1 one)).length<=(d1 one).length+(other.take q).length:=this;omega
  have e0:(aW (emb ((other.take q).foldl fH (d1 one))) (md p.1)).getD (PV.int p.2)=.int ((look ((other.take q).foldl fH (d1 one)) p.1).getD p.2):=by
   rw [xR];cases look ((other.take q).foldl fH (d1 one)) p.1 <;> rfl
  have e1:(other.take (q+1)).foldl fH (d1 one)=fH ((other.take q).foldl fH (d1 one)) p:=by
   rw [g9,hp,List.foldl_append];rfl
  have e2:∀ o:MO,(h++[MO.dK (emb ((other.take q).foldl fH (d1 one)))]).set h.length o=h++[o]:=fun o=>by
   rw [List.set_append_right _ _ (ai _),Nat.sub_self];rfl
  simp [xJ,qB g,Ig g,e0,Q1 g hlen,Iq,e1,e2,fH]
 ·rintro δ h' ⟨rfl,x3,x4,rfl⟩;rw [ae,iu];refine now ?_;have hn:((d2 one other).map (·.1)).Nodup:=oO other (d1 one) _ (oO one [] _ List.nodup_nil);obtain ⟨S,eS,pS,aS⟩:=uD hn;have hlen:(d2 one other).length<=one.length+other.length:=by
   have h0:(d2 one other).length<=(d1 one).length+other.length:=qP other (d1 one) (fun acc p=>if (look acc p.1).getD p.2 > p.2 then (look acc p.1).getD p.2 else p.2);omega
  have g:(h++[MO.dK (emb (d2 one other))])[h.length]?=some (.dK (emb (d2 one other))):=aK;have g1:(h++[MO.dK (emb (d2 one other))]++[MO.vw 0 h.length])[(h++[MO.dK (emb (d2 one other))]).length]?=some (.vw 0 h.length):=aK;have g2:(h++[MO.dK (emb (d2 one other))]++[MO.vw 0 h.length])[h.length]?=some (.dK (emb (d2 one other))):=Ext.app _ _ _ _ g;have ek:(emb (d2 one other)).map (fun kv=>PV.tup [kP kv.1,kv.2])=((d2 one other).map row).map tP:=by
   unfold emb;rw [cj,cj];rfl
  have hs:=zL g1 g2 ek (by rw [ae]; omega) (AK _);rw [eS] at hs;have e3:∀ x:PH,(x++[MO.lst ((S.map row).map tP)])[x.length]?=some (.lst ((S.map row).map tP)):=fun x=>aK;have look2:∀ x,look S x=mx (look other x) (look one x):=fun x=>by
   have e5:look S x=look (d2 one other) x:=by
    have nS:(S.map (·.1)).Nodup:=fV aS;cases e6:look S x with
    | some n=>exact (iY hn (pS.mem_iff.mp (qO e6))).symm
    | none=>
     cases e7:look (d2 one other) x with
     | none=>rfl
     | some m=>exact absurd e6 (by rw [iY nS (pS.mem_iff.mpr (qO e7))]; simp)
   rw [e5];unfold d2;rw [AH other _ n2];unfold d1;rw [Ir one _ n1];simp [look]
  show (cB _ _ (h++[MO.dK (emb (d2 one other))])).W _
  rw [nN,sC,iU,sC,iU,Pz];simp only [VM,Ji,Jh,Rs.bind_ok,qB g,if_true,Ju g,uZ,hs,AL (e3 _),iE];exact k S _ ((Ext.app _ _).trans ((Ext.app _ _).trans (Ext.app _ _))) aS (by rw [pS.length_eq]; exact hlen) look2
abbrev MI:Str:="abcdefghijklmnopqrstuvwxyz"
theorem MJ:MI.cps.toList.length=26:=by decide +kernel
theorem JJ:MI.length=26:=by decide +kernel
theorem MK:∀ i:Fin 26,MI.cps.toList[i.val]?=some (97+i.val):=by decide +kernel
theorem ML {x:Str} {c:Nat}:(x++(⟨#[c]⟩:Str)).length=x.length+1:=by
 rw [Str.length_append]; rfl
theorem Q9 {i:Int} (h0:0<=i) (h1:i < 26):atI MI.cps.toList i=some (97+i.toNat):=by
 rw [PD h0 (by rw [MJ]; exact h1)];exact MK ⟨i.toNat,by omega⟩
theorem app_list (x y:Str):(x++y).cps.toList=x.cps.toList++y.cps.toList:=PySem.W.KT.app_list x y
def pv (p:Str×Int):PV:=.tup [.str p.1,.int p.2]
theorem sR {p q:Str×Int} (h:pv p=pv q):p=q:=by
 obtain ⟨a,b⟩:=p;obtain ⟨c,d⟩:=q;simp [pv] at h;simp [h]
theorem U3 {p:Str×Int} {S:Seen}:pv p∈S.map pv ↔ p∈S:=by
 constructor
 ·intro h;obtain ⟨q,hq,e⟩:=aq.mp h;rw [<- sR e]; exact hq
 ·intro h; exact aq.mpr ⟨p,h,rfl⟩
theorem Iu (S:Seen):sv S=.tup (S.map pv):=rfl
theorem G7 (one:Seen) (p:Str×Int) (n1:(one.map (·.1)).Nodup) (hl:one.length<=20) (h:PH) (Q:PV->PH->Prop)
  (k:∀ S h',Ext h h'->Asc S->S.length<=21->(∀ x,look S x=mx (look [p] x) (look one x))->Q (sv S) h'):(mM [sv one,pv p] h).W Q:=by
 refine eK ?_;simp [sL];exact JI one [p] n1 (by simp) (by simp; omega) _ _ fun S h' hx aS hS lk=>k S h' hx aS (by simp at hS; omega) lk
def kC (hs:List Str) (c:List Int) (x:Str):Option Int:=if x∈hs/\0 < c.getD (hs.idxOf x) 0 then some (c.getD (hs.idxOf x) 0) else none
structure cY (hs:List Str) (c:List Int) (S:Seen):Prop where
 asc:Asc S
 lk:∀ x,look S x=kC hs c x
theorem cY.len {hs:List Str} {c:List Int} {S:Seen} (a:cY hs c S):S.length<=hs.length:=by
 have nS:=fV a.asc;have:=ik nS (l₂:=hs) fun x hx=>by
  obtain ⟨p,hp,rfl⟩:=aq.mp hx;have e:=iY nS hp;rw [a.lk] at e;unfold kC at e;split at e
  ·rename_i z; exact z.1
  ·cases e
 rwa [ae] at this
def prs (hs:List Str) (c:List Int) (k:Nat):Option (Str×Int):=if 0 < c.getD k 0 then some (hs.getD k "",c.getD k 0) else none
theorem Iv {hs:List Str} {c:List Int} (nd:hs.Nodup) {x:Str} {n:Int}:(x,n)∈(ba hs.length).filterMap (prs hs c) ↔ kC hs c x=some n:=by
 rw [List.mem_filterMap];unfold kC prs;constructor
 ·rintro ⟨k,hk,e⟩;have hk:=ia.mp hk;split at e
  ·rename_i hp;have e:=bh e;have e1:hs.getD k "" = x:=congrArg Prod.fst e;have e2:c.getD k 0=n:=congrArg Prod.snd e;have e3:hs.getD k "" = hs[k]:=by simp [hk]
   rw [e3] at e1;have hi:hs.idxOf x=k:=by rw [<- e1]; exact mq nd k hk
   have hm:x∈hs:=by rw [<- e1]; exact fm hk
   rw [hi,if_pos ⟨hm,hp⟩,e2]
  ·cases e
 ·intro e;split at e
  ·rename_i hp;have hi:=jy.mpr hp.1;refine ⟨hs.idxOf x,ia.mpr hi,?_⟩;rw [if_pos hp.2];have e3:hs.getD (hs.idxOf x) "" = x:=by simp [hi]
   rw [e3,bh e]
  ·cases e
theorem MM {hs:List Str} {c:List Int} (nd:hs.Nodup):(((ba hs.length).filterMap (prs hs c)).map (·.1)).Nodup:=by
 have sub:(((ba hs.length).filterMap (prs hs c)).map (·.1)).Sublist ((ba hs.length).map fun k=>hs.getD k ""):=by
  generalize ba hs.length=ks
  induction ks with
  | nil=>simp
  | cons k ks ih=>
   rw [dj];unfold prs;split
   ·rename_i e;exact (List.Sublist.cons _ ih)
   ·rename_i b e;split at e
    ·cases e
     rw [ay,ay];exact ih.cons_cons _
    ·cases e
 have e:(ba hs.length).map (fun k=>hs.getD k "")=hs:=by
  apply List.ext_getElem
  ·simp
  ·intro i h1 h2;simp [h2]
 rw [e] at sub;exact sub.nodup nd
theorem Qa {hs:List Str} (nd:hs.Nodup) (h6:hs.length<=6) {c:List Int} (lc:c.length=hs.length) {lh l:Nat} {h:PH} (gh:h[lh]?=some (.lst (hs.map PV.str))) (gc:h[l]?=some (.lst (c.map PV.int))) (Q:PV->PH->Prop) (k:∀ S h',Ext h h'->cY hs c S->Q (sv S) h'):(xO [.ref lh,.ref l] h).W Q:=by
 refine eK ?_;unfold G5;have hlv:=iV gh;rw [ae] at hlv;have hc:=Dx (js:=[none,some 0,some 1]) (tg:=gN 0) (tst:=bI (aD vGt (aD vAt (mV 2) (mV 0)) (mC (.int 0)))) (elt:=jQ (aB (aD vAt (mV 1) (mV 0)) (aB (aD vAt (mV 2) (mV 0)) aI))) (δ:=[some (.ref lh),some (.ref l)]) (h:=h) (h1:=h) (ms:=aB (mCB gX (aB (mV 0) aI)) aI) (j:=(hs.length:Int))
  (fun k=>(prs hs c k).map pv) (by simp [hlv]) (by omega) (fun i hi=>⟨[some (.int (i:Int)),some (.ref lh),some (.ref l)],by simp [bT],fun h' x'=>by
   have hi':i < hs.length:=by omega
   have e1:atI (hs.map PV.str) (i:Int)=some (.str (hs.getD i "")):=nX (by rw [au]; simp [hi']);have e2:atI (c.map PV.int) (i:Int)=some (.int (c.getD i 0)):=nX (by rw [au]; simp [lc,hi']);have v1:vIx (.ref lh) (.int (i:Int)) h'=.ok (.str (hs.getD i "")) h':=by rw [hW (x' _ _ gh),e1]; rfl
   have v2:vIx (.ref l) (.int (i:Int)) h'=.ok (.int (c.getD i 0)) h':=by rw [hW (x' _ _ gc),e2]; rfl
   unfold prs;generalize c.getD i 0=cv at v2;generalize hs.getD i "" = hv at v1
   by_cases hp:0 < cv
   ·simp [hp,v1,v2,pv]
   ·simp [hp,v2]⟩)
 have e0:(ba ((hs.length:Int)).toNat).filterMap (fun k=>(prs hs c k).map pv)=(((ba hs.length).filterMap (prs hs c)).map row).map tP:=by
  rw [cj,jq];generalize ba hs.length=ks
  induction ks with
  | nil=>rfl
  | cons k ks ih=>
   rw [dj,dj,ih];cases prs hs c k <;> rfl
 rw [e0] at hc;have nP:=MM (c:=c) nd;have hm:=fun x n=>Iv (c:=c) nd (x:=x) (n:=n);have lP:((ba hs.length).filterMap (prs hs c)).length<=hs.length:=by
  have:=List.length_filterMap_le (prs hs c) (ba hs.length);simpa using this
 generalize (ba hs.length).filterMap (prs hs c)=P at hc nP hm lP;obtain ⟨S,eS,pS,aS⟩:=uD nP;have gp:(h++[MO.lst ((P.map row).map tP)])[h.length]?=some (.lst ((P.map row).map tP)):=aK;have hso:=BM gp (by rw [ae]; omega) (AK P);rw [eS] at hso;have e3:∀ x:PH,(x++[MO.lst ((S.map row).map tP)])[x.length]?=some (.lst ((S.map row).map tP)):=fun x=>aK;rw [show List.map some [PV.ref lh,PV.ref l]++cm (2 - [PV.ref lh,PV.ref l].length) none=[some (.ref lh),some (.ref l)] from rfl,nN,sC,iU,sC,iU]
 simp only [hc,Rs.bind_ok,uZ,hso,AL (e3 _),iE];refine k S _ ((Ext.app _ _).trans (Ext.app _ _)) ⟨aS,fun x=>?_⟩;cases e:kC hs c x with
 | some n=>exact iY (fV aS) (p:=(x,n)) (pS.mem_iff.mpr ((hm x n).mpr e))
 | none=>
  cases e2:look S x with
  | none=>rfl
  | some m=>
   have:=(hm x m).mp (pS.mem_iff.mp (qO e2));rw [e] at this;cases this
theorem JK {hs:List Str} {c:List Int} {w:Nat} (nd:hs.Nodup) (lc:c.length=hs.length) (hw:w < hs.length) {n:Int} (hn:c.getD w 0=n) (h0:0<=n) {S T:Seen} (a:cY hs c S) (aT:Asc T) (lT:∀ x,look T x=mx (look [(hs.getD w "",n+1)] x) (look S x)):cY hs (c.set w (n+1)) T:=by
 refine ⟨aT,fun x=>?_⟩;rw [lT x,a.lk x];have ew:hs.getD w "" = hs[w]:=by simp [hw]
 rw [ew,fU]
 by_cases e:hs[w]=x
 ·have hi:hs.idxOf x=w:=by rw [<- e]; exact mq nd w hw
  have hm:x∈hs:=by rw [<- e]; exact fm hw
  rw [if_pos e];have e2:(c.set w (n+1)).getD w 0=n+1:=by simp [lc,hw]
  have R:kC hs (c.set w (n+1)) x=some (n+1):=by
   unfold kC;rw [hi,e2,if_pos ⟨hm,by omega⟩]
  rw [R];unfold kC;rw [hi,hn]
  by_cases hp:0 < n
  ·rw [if_pos ⟨hm,hp⟩];simp only [mx];rw [if_neg (show ¬ (n > n+1) by omega)]
  ·rw [if_neg (fun z=>hp z.2)];rfl
 ·rw [if_neg e];have hne:x∈hs->hs.idxOf x≠w:=fun hm z=>e (by
   have:=List.getElem_idxOf (jy.mpr hm);simp only [z] at this;exact this)
  unfold kC
  by_cases hm:x∈hs
  ·have e2:(c.set w (n+1)).getD (hs.idxOf x) 0=c.getD (hs.idxOf x) 0:=by
    simp [bf (j5 (hne hm))]
   rw [e2];rfl
  ·rw [if_neg (fun z=>hm z.1),if_neg (fun z=>hm z.1)];rfl
inductive Ac where
 | settle
 | back (a b:Int)
 | add (n:Int)
def acV:Ac->PV
 | .settle=>.tup [.str "settle"]
 | .back a b=>.tup [.str "back",.int a,.int b]
 | .add n=>.tup [.str "add",.tup [.str "t",.int 1],.int n]
def acS:Ac->Str
 | .settle=>"settle"
 | .back _ _=>"back"
 | .add _=>"add"
def acB:Ac->Bool
 | .settle=>true
 | _=>false
theorem ac0 (a:Ac) (h:PH):vIx (acV a) (.int 0) h=.ok (.str (acS a)) h:=by cases a <;> simp [acV,acS]
theorem XY (a:Ac):decide (acS a="settle")=acB a:=by
 have n1:¬ ("back" : Str)="settle" := by decide +kernel
 have n2:¬ ("add" : Str)="settle" := by decide +kernel
 cases a with
 | settle=>exact decide_eq_true rfl
 | back a b=>exact decide_eq_false n1
 | add n=>exact decide_eq_false n2
structure De where
 nm:Str×Int
 sn:Seen
 ac:Ac
def deV (d:De):PV:=.tup [pv d.nm,sv d.sn,acV d.ac]
theorem de0 (d:De) (h:PH):vIx (deV d) (.int 0) h=.ok (pv d.nm) h:=by unfold deV; simp
theorem de1 (d:De) (h:PH):vIx (deV d) (.int 1) h=.ok (sv d.sn) h:=by unfold deV; simp
theorem de2 (d:De) (h:PH):vIx (deV d) (.int 2) h=.ok (acV d.ac) h:=by unfold deV; simp
theorem pv0 (p:Str×Int) (h:PH):vIx (pv p) (.int 0) h=.ok (.str p.1) h:=by unfold pv; simp
theorem pv1 (p:Str×Int) (h:PH):vIx (pv p) (.int 1) h=.ok (.int p.2) h:=by unfold pv; simp
theorem C8 (d:De):(deV d).pl 39=true:=by
 show [pv d.nm,sv d.sn,acV d.ac].all (PV.pl 38)=true
 have e1:(sv d.sn).pl 38=true:=by
  rw [Iu]
  show (d.sn.map pv).all (PV.pl 37)=true
  rw [List.all_map];exact cw.mpr fun y _=>rfl
 have e2:(acV d.ac).pl 38=true:=by cases d.ac <;> rfl
 have e0:(pv d.nm).pl 38=true:=rfl;simp [e0,e1,e2]
theorem Iw (ds:List De):(ds.map deV).all (PV.pl 39)=true:=by
 rw [List.all_map];exact cw.mpr fun d _=>C8 d
theorem JL (d:De) (h:PH):cS [deV d] h=.ok (.int d.nm.2) h:=by
 have w:(cS [deV d] h).W fun q h'=>q=.int d.nm.2/\h'=h:=by
  refine eK ?_;simp [lJ,de0,pv1]
 obtain ⟨q,h',e,rfl,rfl⟩:=kI w;exact e
def iL (d:De):Int:=1+(d.sn.map (·.2)).sum
theorem DX (d:De) (ld:d.sn.length<=1000) (h:PH) (Q:PV->PH->Prop) (k:∀ h',Ext h h'->Q (.int (iL d)) h'):(dU [deV d] h).W Q:=by
 refine eK ?_;unfold qH;have hc:=Aq (m:=aD vAt (mV 0) (mC (.int 1))) (js:=[none]) (tg:=gN 0) (tst:=dJ) (elt:=aD vAt (mV 0) (mC (.int 1))) (δ:=[some (deV d)]) (h:=h) (h1:=h) (ys:=d.sn) (emb:=pv)
  (fun p=>some (.int p.2)) (by simp [de1,Iu]) (by omega) (fun p _=>⟨[some (pv p)],by simp [bT],fun h' _=>⟨rfl,by simp [pv1]⟩⟩)
 rw [filterMap_some (fun p:Str×Int=>PV.int p.2) d.sn] at hc;have g1:(h++[MO.lst (d.sn.map fun p=>PV.int p.2)])[h.length]?=some (.lst ((d.sn.map (·.2)).map PV.int)):=by rw [cj]; exact aK
 have x1:Ext h (h++[MO.lst (d.sn.map fun p=>PV.int p.2)]):=Ext.app _ _;generalize h++[MO.lst (d.sn.map fun p=>PV.int p.2)]=hA at hc g1 x1;have vs:=Dv g1;rw [show List.map some [deV d]++cm (1 - [deV d].length) none=[some (deV d)] from rfl]
 simp [hc,vs];exact k _ x1
def mxD (o:Option De) (d:De):Option De:=match o with
 | some b=>if b.nm.2 < d.nm.2 then some d else some b
 | none=>some d
def maxD (ds:List De):Option De:=ds.foldl mxD none
theorem xS:∀ (ds:List De) (o:Option De),(ds.foldl mxD o=none ↔ o=none/\ds=[])/\∀ d,ds.foldl mxD o=some d->(o=some d\/d∈ds)/\(∀ b,o=some b->b.nm.2<=d.nm.2)/\∀ b∈ds,b.nm.2<=d.nm.2
 | [],o=>⟨by simp,fun d e=>⟨.inl e,fun b eb=>by rw [List.foldl_nil] at e; rw [e] at eb; cases eb; exact i8 _,fun b hb=>by simp at hb⟩⟩
 | x :: ds,o=>by
  obtain ⟨a,b⟩:=xS ds (mxD o x);have ne:mxD o x≠none:=by unfold mxD; split <;> (try split) <;> simp
  refine ⟨⟨fun e=>absurd (a.mp e).1 ne,fun e=>by simp at e⟩,fun d e=>?_⟩;obtain ⟨h1,h2,h3⟩:=b d e;have le:∀ y,mxD o x=some y->x.nm.2<=y.nm.2/\(∀ b,o=some b->b.nm.2<=y.nm.2)/\(o=some y\/y=x):=fun y ey=>by
   unfold mxD at ey;cases o with
   | none=>cases ey; exact ⟨i8 _,fun b eb=>(by cases eb),.inr rfl⟩
   | some b=>
    simp only at ey;split at ey
    ·rename_i hlt;cases ey
     exact ⟨i8 _,fun b' eb=>by cases eb; omega,.inr rfl⟩
    ·rename_i hge;cases ey
     exact ⟨by omega,fun b' eb=>by cases eb; exact i8 _,.inl rfl⟩
  obtain ⟨y,ey⟩:=Option.ne_none_iff_exists'.mp ne;obtain ⟨l1,l2,l3⟩:=le y ey;have ly:=h2 y ey;refine ⟨?_,fun b eb=>Int.le_trans (l2 b eb) ly,fun b hb=>?_⟩
  ·rcases h1 with h1 | h1
   ·rw [ey] at h1;cases h1
    rcases l3 with l3 | l3
    ·exact .inl l3
    ·exact .inr (by rw [l3]; exact aj)
   ·exact .inr (ao _ h1)
  ·rcases bc.mp hb with rfl | hb
   ·exact Int.le_trans l1 ly
   ·exact h3 b hb
theorem AM {ds:List De}:maxD ds=none ↔ ds=[]:=by
 have:=(xS ds none).1;unfold maxD;simpa using this
theorem sS {ds:List De} {d:De} (h:maxD ds=some d):d∈ds/\∀ b∈ds,b.nm.2<=d.nm.2:=by
 obtain ⟨a,_,c⟩:=(xS ds none).2 d h;exact ⟨a.resolve_left (by simp),c⟩
theorem DY {n:Nat} {h:PH} {xs:List PV} (g:h[n]?=some (.lst xs)):∀ (ds:List De) (o:Option De),dS cS n xs (ds.map deV) (o.map fun d=>(deV d,d.nm.2)) h=.ok (match ds.foldl mxD o with | some d=>deV d | none=>.non) h
 | [],o=>by
  have e3:nH n xs h=true:=cK g h (Ext.refl h);unfold dS;rw [List.map_nil];simp only [e3,if_true,List.foldl_nil];cases o <;> rfl
 | d :: ds,o=>by
  have e3:nH n xs h=true:=cK g h (Ext.refl h);rw [ay];unfold dS;rw [if_pos e3,JL,Rs.bind_ok];have e4:DT (o.map fun d=>(deV d,d.nm.2)) (deV d) d.nm.2=(mxD o d).map fun d=>(deV d,d.nm.2):=by
   cases o with
   | none=>rfl
   | some b=>
    show (if b.nm.2 < d.nm.2 then _ else _)=_
    unfold mxD;simp only;split <;> rfl
  simp only [e4];rw [DY g ds (mxD o d)];rfl
theorem C9 (x:Str):∀ ds:List De,ds.filterMap (fun d=>if d.nm.1=x then some (deV d) else none)=(ds.filter fun d=>decide (d.nm.1=x)).map deV
 | []=>rfl
 | y :: rs=>by
  rw [dj,f9]
  by_cases e:y.nm.1=x
  ·simp [e,C9 x rs]
  ·simp [e,C9 x rs]
def qQ (o:Option De):PV:=match o with | some d=>deV d | none=>.non
theorem Iy (x:Str) {ds:List De} (l1:ds.length<=1000) {l:Nat} {h:PH} (g:h[l]?=some (.lst (ds.map deV))) (Q:PV->PH->Prop) (k:∀ h',Ext h h'->Q (qQ (maxD (ds.filter fun d=>decide (d.nm.1=x)))) h'):(iW [.str x,.ref l] h).W Q:=by
 refine eK ?_;unfold sJ;have hc:=cE (m:=mV 1) (n:=l) (js:=[none,some 0]) (tg:=gN 0) (tst:=bI (aD vEq (aD vAt (aD vAt (mV 0) (mC (.int 0))) (mC (.int 0))) (mV 1))) (elt:=mV 0) (δ:=[some (.str x),some (.ref l)]) (h:=h) (h1:=h) (ys:=ds) (emb:=deV)
  (fun d=>if d.nm.1=x then some (deV d) else none) (by simp) g (by omega) (fun d _=>⟨[some (deV d),some (.str x)],by simp [bT],fun h' _=>by
   by_cases e:d.nm.1=x
   ·simp [de0,pv0,e]
   ·simp [de0,pv0,e]⟩)
 have em:=C9 x ds;rw [em] at hc;generalize ds.filter (fun d=>decide (d.nm.1=x))=fs at hc k;have g1:(h++[MO.lst (fs.map deV)])[h.length]?=some (.lst (fs.map deV)):=aK;have x1:Ext h (h++[MO.lst (fs.map deV)]):=Ext.app _ _;generalize h++[MO.lst (fs.map deV)]=hA at hc g1 x1;have e1:aN hA h.length=some (fs.map deV):=by simp [aN,g1]
 have vm:AF cS (.ref h.length) hA=.ok (qQ (maxD fs)) hA:=by
  unfold AF;simp only [e1];exact DY g1 fs none
 rw [show List.map some [PV.str x,PV.ref l]++cm (2 - [PV.str x,PV.ref l].length) none=[some (.str x),some (.ref l)] from rfl,nN]
 unfold Im;rw [hc,Rs.bind_ok,vm,iE];exact k _ x1
structure Row where
 d:De
 c:List Int
 r:Nat
def rwV (z:Row):PV:=.tup [deV z.d,.ref z.r]
structure eE (hs:List Str) (z:Row):Prop where
 len:z.c.length=hs.length
 ex:∃ w c0,w < hs.length/\c0.length=hs.length/\0<=c0.getD w 0/\z.c=c0.set w (c0.getD w 0+1)/\z.d.nm=(hs.getD w "",c0.getD w 0+1)/\cY hs c0 z.d.sn
def RAt (h:PH) (l:Nat) (R:List Row):Prop:=h[l]?=some (.lst (R.map rwV))/\∀ z∈R,h[z.r]?=some (.lst (z.c.map PV.int))
theorem RAt.ext {h h':PH} {l:Nat} {R:List Row} (t:RAt h l R) (x:Ext h h'):RAt h' l R:=⟨x _ _ t.1,fun z hz=>x _ _ (t.2 z hz)⟩
def Inc (R:List Row):Prop:=R.Pairwise fun a b=>a.d.nm.1=b.d.nm.1->a.d.nm.2 < b.d.nm.2
theorem Qb {F:List De} (pw:F.Pairwise fun a b=>a.nm.2 < b.nm.2) {d e:De} (hd:d∈F) (he:F.getLast?=some e):d=e\/d.nm.2 < e.nm.2:=by
 obtain ⟨F',rfl⟩:=List.getLast?_eq_some_iff.mp he;rcases bj.mp hd with h | h
 ·exact .inr ((lj.mp pw).2.2 d h e (by simp))
 ·simp at h; exact .inl h
theorem last_eq {R:List Row} (inc:Inc R) {T:List De} (mem:∀ d,d∈T ↔ d∈R.map (·.d)) (p:De->Bool) (x:Str) (hp:∀ d,p d=true->d.nm.1=x):maxD (T.filter p)=((R.map (·.d)).filter p).getLast?:=by
 have pw:((R.map (·.d)).filter p).Pairwise fun a b=>a.nm.2 < b.nm.2:=by
  rw [List.pairwise_filter,df];exact inc.imp fun {a b} h ha hb=>h ((hp _ ha).trans (hp _ hb).symm)
 have mem':∀ d,d∈T.filter p ↔ d∈(R.map (·.d)).filter p:=fun d=>by rw [av,av,mem]
 generalize (R.map (·.d)).filter p=F at pw mem';generalize T.filter p=G at mem';cases e:maxD G with
 | none=>
  have eG:=AM.mp e;subst eG;have:F=[]:=List.eq_nil_iff_forall_not_mem.mpr fun d hd=>by have:=(mem' d).mpr hd; simp at this
  rw [this]; rfl
 | some d=>
  obtain ⟨h1,h2⟩:=sS e;have hF:=(mem' d).mp h1;cases e2:F.getLast? with
  | none=>
   rw [List.getLast?_eq_none_iff.mp e2] at hF;simp at hF
  | some b=>
   rcases Qb pw hF e2 with z | z
   ·rw [z]
   ·have:=h2 b ((mem' b).mpr (List.mem_of_getLast? e2));omega
def hB (x:Str) (d:De):Bool:=decide (d.nm.1=x)
def MN (hs:List Str) (R:List Row) (x:Str) (v:PV):Prop:=match (R.filter fun z=>hB x z.d).getLast? with
 | none=>v=.tup []
 | some z=>∃ S,v=sv S/\cY hs z.c S
theorem MP {hs:List Str} (nd:hs.Nodup) (h6:hs.length<=6) {R:List Row} (inc:Inc R) (ok:∀ z∈R,eE hs z) {T:List De} (lT:T.length<=1000) (mem:∀ d,d∈T ↔ d∈R.map (·.d)) (x:Str) {l:Nat} {h:PH} (g:h[l]?=some (.lst (T.map deV))) (Q:PV->PH->Prop) (k:∀ v h',Ext h h'->MN hs R x v->Q v h'):(vC [.str x,.ref l] h).W Q:=by
 refine eK ?_;unfold BY;rw [aL];simp;refine Iy x lT g _ fun h1 x1=>?_;have le:=last_eq inc mem (hB x) x (fun d hd=>by simpa [hB] using hd)
 have le:maxD (T.filter fun d=>decide (d.nm.1=x))=((R.map (·.d)).filter (hB x)).getLast?:=le;rw [le];have ef:((R.map (·.d)).filter (hB x)).getLast?=((R.filter fun z=>hB x z.d).getLast?).map (·.d):=by
  rw [List.filter_map,List.getLast?_map];rfl
 rw [ef];unfold MN at k;cases e:(R.filter fun z=>hB x z.d).getLast? with
 | none=>
  rw [e] at k;refine now ?_;simp [qQ];exact k _ _ x1 rfl
 | some z=>
  rw [e] at k;have hz:=(av.mp (List.mem_of_getLast? e)).1;obtain ⟨lz,w,c0,hw,lc,h0,ec,en,sn⟩:=ok z hz;refine now ?_;have nn:∀ h,vIs (deV z.d) .non h=.ok (.bl false) h:=fun h=>by unfold deV; simp
  simp [qQ,nn,de0,de1];refine G7 z.d.sn z.d.nm (fV sn.asc) (by have:=sn.len; omega) _ _ fun S h2 x2 aS lS lk=>?_;refine k _ _ (x1.trans x2) ⟨S,rfl,?_⟩;rw [ec];refine JK nd lc hw rfl h0 sn aS fun y=>?_;rw [lk y,en]
theorem Ca {δ:Ev} {h h1:PH} {js:List (Option Nat)} {tg:Mg} {elt:Me} {g:PH->Bool} {mi:Mi} {xs:List PV} {Q:PV->PH->Prop} (P:Nat->PV->Prop) (e:mi δ h=.ok ⟨xs,g⟩ h1) (hg:∀ h,Ext h1 h->g h=true) (hz:xs.length<=16777216)
  (step:∀ i x,xs[i]?=some x->∃ δ1,tg x (bT js δ)=some δ1/\∀ h,Ext h1 h->∀ Q:PV->PH->Prop,(∀ v h',Ext h h'->P i v->Q v h')->(elt δ1 h).W Q)
  (k:∀ l h' (vs:List PV),Ext h1 h'->h1.length<=l->vs.length=xs.length->h'[l]?=some (.lst vs)->(∀ i v,vs[i]?=some v->P i v)->Q (.ref l) h'):(aY js mi tg dJ elt δ h).W Q:=by
 unfold aY;rw [e,Rs.bind_ok];refine mJ (fun i h'=>Ext h1 h'/\∃ vs:List PV,vs.length=i/\h'[h1.length]?=some (.lst vs)/\∀ i v,vs[i]?=some v->P i v) xs 0 _ ⟨Ext.app _ _,[],rfl,by simp,fun i v hv=>by simp at hv⟩ (fun i x h' _ hx hi=>?_) (fun h' hi=>?_)
 ·obtain ⟨x1,vs,lv,g1,ov⟩:=hi;have hx:xs[i]?=some x:=by simpa using hx
  have hil:=(ab.mp hx).1;obtain ⟨δ1,ht,hs⟩:=step i x hx;refine ⟨hg _ x1,δ1,ht,?_⟩;have hY:dJ δ1 h'=.ok true h':=rfl;rw [hY,iE,if_pos rfl];refine hs h' x1 _ fun v h2 x2 pv=>?_;refine ⟨_,x2 _ _ g1,by omega,(x1.trans x2).setN (ai _),vs++[v],by simp [lv],dR (x2 _ _ g1),fun j w hw=>?_⟩;rcases Nat.lt_trichotomy j vs.length with z | z | z
  ·rw [dk z] at hw;exact ov j w hw
  ·rw [z,e9 (ai _),Nat.sub_self] at hw;cases hw
   rw [z,lv];exact pv
  ·rw [e9 (by omega)] at hw;have:=(ab.mp hw).1;simp at this;omega
 ·obtain ⟨x1,vs,lv,g1,ov⟩:=hi;rw [Nat.zero_add] at lv;exact ⟨hg _ x1,k _ _ vs x1 (ai _) lv g1 ov⟩
def stV (o:Option De):Int:=match o with | some d=>iL d | none=>0
theorem AN:∀ ds:List De,ds.filterMap (fun d=>if acB d.ac=true then some (deV d) else none)=(ds.filter fun d=>acB d.ac).map deV
 | []=>rfl
 | y :: rs=>by
  rw [dj,f9];cases e:acB y.ac <;> simp [AN rs]
theorem MQ {α:Type} {hs:List α} {vs:List PV} (f:α->PV) (lv:vs.length=hs.length) (ov:∀ (i:Nat) (v:PV),vs[i]?=some v->∃ x,hs[i]?=some x/\v=f x):vs=hs.map f:=by
 apply g7;intro i;rw [au];cases e:vs[i]? with
 | none=>
  have:hs.length<=i:=by rw [<- lv]; exact jm.mp e
  rw [k6 this]; rfl
 | some v=>
  obtain ⟨x,hx,rfl⟩:=ov i v e;rw [hx]; rfl
theorem xT {hs:List Str} (h0:hs≠[]) (h6:hs.length<=6) {T:List De} (lT:T.length<=1000) (ls:∀ d∈T,d.sn.length<=1000) {lh l:Nat} {h:PH} (gh:h[lh]?=some (.lst (hs.map PV.str))) (g:h[l]?=some (.lst (T.map deV))) (Q:PV->PH->Prop)
  (k:∀ h',Ext h h'->Q (.int (kJ (hs.map fun x=>stV (maxD ((T.filter fun d=>acB d.ac).filter fun d=>decide (d.nm.1=x)))))) h'):(mL [.ref lh,.ref l] h).W Q:=by
 refine eK ?_;unfold BX;have hc:=cE (m:=mV 1) (n:=l) (js:=[none]) (tg:=gN 0) (tst:=bI (aD vEq (aD vAt (aD vAt (mV 0) (mC (.int 2))) (mC (.int 0))) (mC (.str "settle")))) (elt:=mV 0) (δ:=[some (.ref lh),some (.ref l),none,none]) (h:=h) (h1:=h) (ys:=T) (emb:=deV)
  (fun d=>if acB d.ac=true then some (deV d) else none) (by simp) g (by omega) (fun d _=>⟨[some (deV d)],by simp [bT],fun h' _=>by
   have e:=XY d.ac;cases eb:acB d.ac with
   | true=>
    rw [eb] at e;have e:acS d.ac="settle" := of_decide_eq_true e;simp [de2,ac0,e]
   | false=>
    rw [eb] at e;have e:¬ acS d.ac="settle" := of_decide_eq_false e;simp [de2,ac0,e]⟩)
 rw [AN T] at hc;have lst:(T.filter fun d=>acB d.ac).length<=1000:=c4 (c9 _ _) lT;have lss:∀ d∈T.filter fun d=>acB d.ac,d.sn.length<=1000:=fun d hd=>ls d (av.mp hd).1;generalize (T.filter fun d=>acB d.ac)=Z at hc k lst lss;have x1:Ext h (h++[MO.lst (Z.map deV)]):=Ext.app _ _;have g1:(h++[MO.lst (Z.map deV)])[h.length]?=some (.lst (Z.map deV)):=aK;rw [aL,show List.map some [PV.ref lh,PV.ref l]++cm (4 - [PV.ref lh,PV.ref l].length) none=[some (.ref lh),some (.ref l),none,none] from rfl]
 simp only [nM,hc,iE,jj,jk];generalize h++[MO.lst (Z.map deV)]=hA at hc g1 x1;generalize h.length=lz at g1;clear hc;refine now ?_;rw [aL];simp only [nM];have gh1:=x1 _ _ gh;refine Ca (h1:=hA) (xs:=hs.map PV.str) (g:=nH lh (hs.map PV.str)) (fun i v=>∃ x,hs[i]?=some x/\v=qQ (maxD (Z.filter fun d=>decide (d.nm.1=x)))) (cZ (by simp) gh1) (cK gh1) (by rw [ae]; omega) (fun i x hx=>?_) fun l3 hC vs xC bC lv gC ov=>?_
 ·rw [au] at hx;obtain ⟨y,hy,rfl⟩:=a7.mp hx;refine ⟨[some (.str y),some (.ref lz)],by simp [bT],fun h2 x2 Q k2=>?_⟩;simp;exact Iy y lst (x2 _ _ g1) _ fun h3 x3=>k2 _ h3 x3 ⟨y,hy,rfl⟩
 rw [ae] at lv;have ev:=MQ _ lv ov;subst ev;simp only [jj,jk];clear ov lv;refine now ?_;simp only [nN,sC,iU,BE];refine Ca (h1:=hC) (xs:=hs.map fun x=>qQ (maxD (Z.filter fun d=>decide (d.nm.1=x)))) (g:=nH l3 _) (fun i v=>∃ x,hs[i]?=some x/\v=.int (stV (maxD (Z.filter fun d=>decide (d.nm.1=x))))) (cZ (by simp) gC) (cK gC) (by rw [ae]; omega) (fun i x hx=>?_) fun l4 hD vs xD bD lv gD ov=>?_
 ·rw [au] at hx;obtain ⟨y,hy,rfl⟩:=a7.mp hx;refine ⟨[some (qQ (maxD (Z.filter fun d=>decide (d.nm.1=y))))],by simp [bT],fun h2 x2 Q k2=>?_⟩;cases e:maxD (Z.filter fun d=>decide (d.nm.1=y)) with
  | none=>
   simp [qQ];exact k2 _ h2 (Ext.refl _) ⟨y,hy,by rw [e]; rfl⟩
  | some d=>
   have hd:=(av.mp (sS e).1).1;have nn:∀ h,vIs (deV d) .non h=.ok (.bl false) h:=fun h=>by unfold deV; simp
   simp [qQ,nn];exact DX d (lss d hd) h2 _ fun h3 x3=>k2 _ h3 x3 ⟨y,hy,by rw [e]; rfl⟩
 rw [ae] at lv;have ev:=MQ _ lv ov;subst ev;have gD':hD[l4]?=some (.lst ((hs.map fun x=>stV (maxD (Z.filter fun d=>decide (d.nm.1=x)))).map PV.int)):=by rw [cj]; exact gD
 cases hs with
 | nil=>exact absurd rfl h0
 | cons a hs=>
  have vm:=JD (a:=stV (maxD (Z.filter fun d=>decide (d.nm.1=a)))) (ns:=hs.map fun x=>stV (maxD (Z.filter fun d=>decide (d.nm.1=x)))) (n:=l4) (h:=hD) gD';simp only [uZ,Rs.bind_ok,iE,vm];exact k _ ((x1.trans xC).trans xD)
theorem Bg {n d k:Nat} (h:k<=n):HT.sIx n d (some (k:Int))=k:=by
 show (if (k:Int) < 0 then ((k:Int)+(n:Int)).toNat else min (k:Int).toNat n)=k
 rw [if_neg (by omega)];omega
theorem MR {α:Type} {xs:List α} {n:Nat} (h:n<=xs.length):iT xs none (some (n:Int))=xs.take n:=by
 unfold iT;rw [Bg h]
 show (xs.drop 0).take (n - 0)=_
 simp
theorem MS {α:Type} {xs:List α} {n:Nat} (h:n<=xs.length):iT xs (some (n:Int)) none=xs.drop n:=by
 unfold iT;rw [Bg h]
 show (xs.drop n).take (xs.length - n)=_
 rw [List.take_of_length_le (by rw [List.length_drop]; omega)]
theorem MT:∀ ns:List Int,(∀ n∈ns,0<=n)->0<=ns.sum
 | [],_=>by simp
 | n :: ns,h=>by
  have h1:=h n aj;have h2:=MT ns fun m hm=>h m (ao _ hm);rw [m4]; omega
theorem cY.nn {hs:List Str} {c:List Int} {S:Seen} (a:cY hs c S):0<=(S.map (·.2)).sum:=by
 refine MT _ fun n hn=>?_;obtain ⟨p,hp,rfl⟩:=aq.mp hn;have e:=iY (fV a.asc) hp;rw [a.lk] at e;unfold kC at e;split at e
 ·rename_i z;have:=bh e;omega
 ·cases e
theorem eE.sn {hs:List Str} {z:Row} (o:eE hs z):z.d.sn.length<=hs.length/\0<=iL z.d:=by
 obtain ⟨w,c0,_,_,_,_,_,s⟩:=o.ex;have:=s.nn;exact ⟨s.len,by unfold iL; omega⟩
theorem MU {h:PH} {n:Nat} {xs:List PV} (e:h[n]?=some (.lst xs)):Dq [.ref n] h=.ok (.ref h.length) (h++[.lst xs]):=by simp [Dq,aN,e]
theorem Sd {α:Type} {xs:List α} (nd:xs.Nodup) {i j:Nat} {a:α} (h1:xs[i]?=some a) (h2:xs[j]?=some a):i=j:=by
 obtain ⟨l1,e1⟩:=ab.mp h1;obtain ⟨l2,e2⟩:=ab.mp h2;have pw:=ic.mp nd;rcases Nat.lt_trichotomy i j with h | h | h
 ·exact absurd (e1.trans e2.symm) (pw i j l1 l2 h)
 ·exact h
 ·exact absurd (e2.trans e1.symm) (pw j i l2 l1 h)
theorem vF {δ:Ev} {h h1:PH} {js:List (Option Nat)} {tg:Mg} {elt:Me} {g:PH->Bool} {α:Type} {mi:Mi} {tst:Ev->PH->Rs Bool} {ys:List α} {emb:α->PV} {Q:PV->PH->Prop} (p:α->Bool) (f:α->PV) (e:mi δ h=.ok ⟨ys.map emb,g⟩ h1) (hg:∀ h,Ext h1 h->g h=true) (hz:ys.length<=16777216)
  (step:∀ y∈ys,∃ δ1,tg (emb y) (bT js δ)=some δ1/\(∀ h,Ext h1 h->∀ Q:Bool->PH->Prop,(∀ h',Ext h h'->Q (p y) h')->(tst δ1 h).W Q)/\∀ h,Ext h1 h->elt δ1 h=.ok (f y) h)
  (k:∀ l h',Ext h1 h'->h1.length<=l->h'[l]?=some (.lst ((ys.filter p).map f))->Q (.ref l) h'):(aY js mi tg tst elt δ h).W Q:=by
 unfold aY;rw [e,Rs.bind_ok];refine mJ (fun i h'=>Ext h1 h'/\h'[h1.length]?=some (.lst (((ys.take i).filter p).map f))) (ys.map emb) 0 _ ⟨Ext.app _ _,by simp⟩ (fun i x h' _ hx hi=>?_) (fun h' hi=>?_)
 ·obtain ⟨x1,g1⟩:=hi;have hx:(ys.map emb)[i]?=some x:=by simpa using hx
  rw [au] at hx;obtain ⟨y,hy,rfl⟩:=a7.mp hx;have hil:=(ab.mp hy).1;obtain ⟨δ1,ht,hs,he⟩:=step y (cg hy);have htk:ys.take (i+1)=ys.take i++[y]:=by rw [g9,hy]; rfl
  refine ⟨hg _ x1,δ1,ht,?_⟩;refine hs h' x1 _ fun h2 x2=>?_;cases ep:p y with
  | true=>
   rw [if_pos rfl,he h2 (x1.trans x2),iE];refine ⟨_,x2 _ _ g1,?_,(x1.trans x2).setN (ai _),?_⟩
   ·have:=c9 p (ys.take i);rw [d9] at this;rw [ae]; omega
   ·rw [dR (x2 _ _ g1),htk,List.filter_append,cz];simp [ep]
  | false=>
   rw [if_neg (by simp)];refine ⟨x1.trans x2,?_⟩;rw [x2 _ _ g1,htk,List.filter_append];simp [ep]
 ·obtain ⟨x1,g1⟩:=hi;refine ⟨hg _ x1,k _ _ x1 (ai _) ?_⟩;rw [Nat.zero_add,ae,iu] at g1;exact g1
theorem Qc {h hX:PH} {o:MO} (x:Ext h hX):Ext h (hX.set h.length o):=fun n o' e=>by
 have hn:=(ab.mp e).1;rw [bf (by omega)];exact x n o' e
inductive Kd where
 | settle
 | back (f l:Int)
 | other
deriving DecidableEq
abbrev HD:=Int×Kd
def reach (b:HD) (n:Int):Bool:=match b.2 with
 | .back f l=>decide (f<=n/\n<=l)
 | _=>false
def hit (n:Int) (B:List HD):Option HD:=B.find? fun b=>reach b n
def jU:List HD->List HD->List (HD×HD)
 | [],_=>[]
 | d :: L,B=>match d.2,hit d.1 B with
  | .settle,_=>jU L []
  | _,some b=>(d,b) :: jU L B
  | .back _ _,none=>jU L (B++[d])
  | .other,none=>jU L B
def zN:List HD->List HD->List HD
 | [],B=>B
 | d :: L,B=>match d.2,hit d.1 B with
  | .settle,_=>zN L []
  | _,some _=>zN L B
  | .back _ _,none=>zN L (B++[d])
  | .other,none=>zN L B
theorem mO (d:HD) (L B:List HD):jU (d :: L) B=match d.2,hit d.1 B with
  | .settle,_=>jU L []
  | _,some b=>(d,b) :: jU L B
  | .back _ _,none=>jU L (B++[d])
  | .other,none=>jU L B:=rfl
theorem JM (d:HD) (L B:List HD):zN (d :: L) B=match d.2,hit d.1 B with
  | .settle,_=>zN L []
  | _,some _=>zN L B
  | .back _ _,none=>zN L (B++[d])
  | .other,none=>zN L B:=rfl
theorem DZ:∀ (A P B:List HD),jU (A++P) B=jU A B++jU P (zN A B)
 | [],_,_=>rfl
 | d :: A,P,B=>by
  rw [List.cons_append,mO,mO,JM];split <;> simp [DZ A P]
theorem E1:∀ {F B:List HD} {x:HD×HD},x∈jU F B->x.1∈F/\x.1.2≠.settle
 | [],_,_,h=>nomatch h
 | d :: L,B,x,h=>by
  have up:∀ {B'},x∈jU L B'->x.1∈d :: L/\x.1.2≠.settle:=fun h=>let ⟨a,b⟩:=E1 h; ⟨ao _ a,b⟩;rw [mO] at h;split at h
  ·exact up h
  ·rename_i e1 e2;rcases bc.mp h with rfl | h
   ·exact ⟨aj,fun z=>by simp_all⟩
   ·exact up h
  ·exact up h
  ·exact up h
abbrev E2 (F:List HD):Prop:=F.Pairwise (fun a b=>b.1 < a.1)
def tkH (F B:List HD) (n:Int):Prop:=∃ x∈jU F B,x.1.1=n
theorem AO {A P:List HD} {c:Int} {B:List HD} (hf:E2 (A++(c,.settle) :: P)) {n:Int} (hn:n<=c):tkH (A++(c,.settle) :: P) B n ↔ tkH P [] n:=by
 have e:jU (A++(c,.settle) :: P) B=jU A B++jU P []:=by
  rw [DZ]
  congr 1
 unfold tkH;rw [e];constructor
 ·rintro ⟨x,hx,rfl⟩;rcases bj.mp hx with hx | hx
  ·have:=(lj.mp hf).2.2 _ (E1 hx).1 _ aj;simp only at this;omega
  ·exact ⟨x,hx,rfl⟩
 ·rintro ⟨x,hx,rfl⟩;exact ⟨x,ak _ hx,rfl⟩
section
variable {α:Type} [DecidableEq α]
def ofH (h:α) (L:List (α×HD)):List HD:=(L.filter fun x=>decide (x.1=h)).map (·.2)
def run:List (α×HD)->(α->List HD)->List (α×HD×HD)
 | [],_=>[]
 | d :: L,B=>match d.2.2,hit d.2.1 (B d.1) with
  | .settle,_=>run L fun h=>if h=d.1 then [] else B h
  | _,some b=>(d.1,d.2,b) :: run L B
  | .back _ _,none=>run L fun h=>if h=d.1 then B h++[d.2] else B h
  | .other,none=>run L B
theorem xU (d:α×HD) (L:List (α×HD)) (B:α->List HD):run (d :: L) B=match d.2.2,hit d.2.1 (B d.1) with
  | .settle,_=>run L fun h=>if h=d.1 then [] else B h
  | _,some b=>(d.1,d.2,b) :: run L B
  | .back _ _,none=>run L fun h=>if h=d.1 then B h++[d.2] else B h
  | .other,none=>run L B:=rfl
theorem jV (h:α):∀ (L:List (α×HD)) (B:α->List HD),((run L B).filter fun x=>decide (x.1=h)).map (·.2)=jU (ofH h L) (B h)
 | [],_=>rfl
 | d :: L,B=>by
  unfold ofH
  by_cases e:d.1=h
  ·subst e;rw [f9,if_pos (decide_eq_true rfl),ay];rw [xU,mO];split
   ·rw [jV d.1 L]; simp [ofH]
   ·rename_i b e1 e2;rw [f9,if_pos (decide_eq_true rfl),ay,jV d.1 L];rfl
   ·rename_i e1 e2; rw [jV d.1 L]; simp [ofH]
   ·rename_i e1 e2; rw [jV d.1 L]; simp [ofH]
  ·rw [f9,if_neg (by simpa using e)]
   have e':h≠d.1:=fun z=>e z.symm;rw [xU];split
   ·rw [jV h L]; simp [ofH,e']
   ·rw [f9,if_neg (by simpa using e),jV h L]; rfl
   ·rw [jV h L]; simp [ofH,e']
   ·rw [jV h L]; rfl
def Tk (L:List (α×HD)) (h:α) (n:Int):Prop:=∃ x∈run L (fun _=>[]),x.1=h/\x.2.1.1=n
theorem MV {L:List (α×HD)} {h:α} {n:Int}:Tk L h n ↔ tkH (ofH h L) [] n:=by
 unfold Tk tkH;rw [<- jV h L fun _=>[]];constructor
 ·rintro ⟨x,hx,rfl,rfl⟩;exact ⟨x.2,aq.mpr ⟨x,av.mpr ⟨hx,by simp⟩,rfl⟩,rfl⟩
 ·rintro ⟨y,hy,rfl⟩;obtain ⟨x,hx,rfl⟩:=aq.mp hy;obtain ⟨h1,h2⟩:=av.mp hx;exact ⟨x,h1,by simpa using h2,rfl⟩
end
structure Dd where
 nm:Str×Int
 seen:Seen
 kd:Kd
 act:List PV
def dP (d:Dd):PV:=.tup [pv d.nm,sv d.seen,.tup d.act]
def word:Kd->Str
 | .settle=>"settle"
 | .back _ _=>"back"
 | .other=>"other"
def WfA:Kd->List PV->Prop
 | .settle,a=>a=[.str "settle"]
 | .back f l,a=>a=[.str "back",.int f,.int l]
 | .other,a=>∃ w r,a=.str w :: r/\w≠"settle" /\ w≠"back"
structure Wf (d:Dd):Prop where
 len:d.seen.length<=100
 act:WfA d.kd d.act
 pl:d.act.all (PV.pl 37)=true
def hdD (d:Dd):HD:=(d.nm.2,d.kd)
def tri (d:Dd):Str×HD:=(d.nm.1,hdD d)
def tot (S:Seen):Int:=(S.map (·.2)).sum
def kyL (d:Dd):List Key:=[.inl (1+tot d.seen),.inr d.nm.1,.inl d.nm.2]
theorem dP0 {d:Dd} {h:PH}:vIx (dP d) (.int 0) h=.ok (pv d.nm) h:=by unfold dP; simp
theorem dP1 {d:Dd} {h:PH}:vIx (dP d) (.int 1) h=.ok (sv d.seen) h:=by unfold dP; simp
theorem dP2 {d:Dd} {h:PH}:vIx (dP d) (.int 2) h=.ok (.tup d.act) h:=by unfold dP; simp
theorem Se {p:Str×Int}:(PV.tup [.str p.1,.int p.2]).ky 6=true:=rfl
theorem mR (d:Dd) (hS:d.seen.length<=100) (h:PH) (Q:PV->PH->Prop) (k:∀ h',Ext h h'->Q (.int (1+tot d.seen)) h'):(dU [dP d] h).W Q:=by
 refine eK ?_;have hc:=Aq (js:=[none]) (tg:=gN 0) (tst:=dJ) (elt:=aD vAt (mV 0) (mC (.int 1))) (m:=aD vAt (mV 0) (mC (.int 1))) (δ:=[some (dP d)]) (h:=h) (h1:=h) (ys:=d.seen) (emb:=pv)
  (fun q=>some (.int q.2)) (by simp [dP1,Iu]) (by omega) (fun q hq=>⟨_,rfl,fun h3 _=>⟨rfl,by simp [bT,pv1]⟩⟩)
 have es:d.seen.filterMap (fun q=>some (PV.int q.2))=(d.seen.map (·.2)).map PV.int:=by rw [filterMap_some,cj]; rfl
 rw [es] at hc;have gs:(h++[MO.lst ((d.seen.map (·.2)).map PV.int)])[h.length]?=some (.lst ((d.seen.map (·.2)).map PV.int)):=aK;change (qH [some (dP d)] h).W _;unfold qH;rw [nN,Py,VN,Rs.bind_ok,sC,iU,hc];simp only [Rs.bind_ok,uZ,Dv gs,Jn,iE];exact k _ (Ext.app _ _)
theorem Cb (d:Dd) (hS:d.seen.length<=100) (h:PH) (Q:PV->PH->Prop) (k:∀ h',Ext h h'->Q (tP (kyL d)) h'):(sM [dP d] h).W Q:=by
 refine eK ?_;unfold G3;rw [aL];simp [dP0];refine ⟨[some (dP d),some (.str d.nm.1),some (.int d.nm.2)],by simp [pv],?_⟩;refine now ?_;simp;refine mR d hS _ _ fun h' hx=>?_
 try simp
 exact k h' hx
def ent (d:Dd):PV×PV:=(pv d.nm,dP d)
theorem E3 (p:Str×Int):∀ es:List Dd,(aW (es.map ent) (pv p)).isSome=true ↔ p∈es.map (·.nm)
 | []=>by simp [aW]
 | d :: es=>by
  rw [ay,ay,bc]
  show (aW ((pv d.nm,dP d) :: es.map ent) (pv p)).isSome=true ↔ _
  unfold aW
  by_cases e:d.nm=p
  ·rw [if_pos (by rw [e])]; simp [e]
  ·rw [if_neg (fun z=>e (sR z)),E3 p es];constructor
   ·exact .inr
   ·rintro (z | z)
    ·exact (e z.symm).elim
    ·exact z
theorem Qd {es:List Dd} {d:Dd} (hu:∀ x∈es,x.nm=d.nm->x=d):dM (es.map ent) (pv d.nm) (dP d)=(if d.nm∈es.map (·.nm) then es else es++[d]).map ent:=by
 unfold dM;have hl:=E3 d.nm es
 by_cases e:d.nm∈es.map (·.nm)
 ·rw [if_pos e,if_pos (hl.mpr e),cj];apply d0;intro x hx
  show (if (ent x).1=pv d.nm then ((ent x).1,dP d) else ent x)=ent x
  by_cases z:(ent x).1=pv d.nm
  ·rw [if_pos z];have:=hu x hx (sR z);subst this;rfl
  ·rw [if_neg z]
 ·rw [if_neg e,if_neg (fun z=>e (hl.mp z)),cz];rfl
theorem Qe (xs:List Dd):nI (xs.map kyL)=true:=by
 cases xs with
 | nil=>rfl
 | cons a r=>
  rw [ay];unfold nI;rw [cq];refine ⟨rfl,cw.mpr fun z hz=>?_⟩;obtain ⟨q,_,rfl⟩:=aq.mp hz;rfl
theorem E4 {β:Type} (f:Dd->β) (hf:∀ a b,f a=f b->a.nm=b.nm):∀ {xs:List Dd},(xs.map (·.nm)).Nodup->(xs.map f).Nodup:=fun {xs} h=>by
 unfold List.Nodup at*;rw [df] at*;exact h.imp fun hne e=>hne (hf _ _ e)
theorem MW (a b:Dd) (e:kyL a=kyL b):a.nm=b.nm:=by
 unfold kyL at e;simp at e;exact Prod.ext e.2.1 e.2.2
theorem lK {h hX:PH} {o:MO} {n:Nat} (x:Ext h hX) (hn:h.length<=n):Ext h (hX.set n o):=fun m o' e=>by
 have:=(ab.mp e).1;rw [bf (by omega)];exact x m o' e
abbrev oP (os:List Dd):Prop:=os.Pairwise (fun a b=>bM (kyL b) (kyL a)=false)
theorem Cc (U ds:List Dd) (hU:∀ d∈ds,d∈U) (hlU:U.length<=63) (hw:∀ d∈ds,Wf d) (hl:ds.length<=1000) (hu:∀ d∈ds,∀ e∈ds,d.nm=e.nm->d=e) (n:Nat) (h:PH) (g:h[n]?=some (.lst (ds.map dP))) (Q:PV->PH->Prop)
  (k:∀ os l h',Ext h h'->h.length<=l->h'[l]?=some (.lst (os.map dP))->(os.map (·.nm)).Nodup->(∀ d,d∈os ↔ d∈ds)->oP os->Q (.ref l) h'):(dC [.ref n] h).W Q:=by
 refine eK ?_;unfold oJ;rw [aL];simp;have x0:Ext h (h++[MO.dK []]):=Ext.app _ _;have g0:cM (h++[MO.dK []]) h.length=some (([]:List Dd).map ent):=Ii aK;generalize h++[MO.dK []]=hA at x0 g0;refine now ?_;rw [aL];refine oC (n:=n) (xs:=ds.map dP) (h1:=hA) (fun q δ h'=>∃ es:List Dd,Ext h h'/\cM h' h.length=some (es.map ent)/\(es.map (·.nm)).Nodup/\(∀ d,d∈es ↔ d∈ds.take q)/\es.length<=q/\∃ x2,δ=[some (.ref n),some (.ref h.length),x2]) (by simp) (x0 _ _ g) ⟨[],x0,g0,by simp,by simp,by simp,_,rfl⟩ ?_ ?_ ?_
 ·rintro q δ h' hq ⟨es,x,_⟩;exact x _ _ g
 ·rintro q y δ h' hy ⟨es,x,t,nd,mem,le,x2,rfl⟩;rw [au] at hy;obtain ⟨d,hd,rfl⟩:=a7.mp hy;have hq':q < ds.length:=(ab.mp hd).1;have htk:ds.take (q+1)=ds.take q++[d]:=by rw [g9,hd]; rfl
  have hin:d∈ds:=cg hd;have hes:∀ e∈es,e∈ds:=fun e he=>List.mem_of_mem_take ((mem e).mp he);refine ⟨_,rfl,?_⟩;have hp:uQ (.ref h.length) (pv d.nm) (dP d) h'=some (h'.set h.length (.dD (dM (es.map ent) (pv d.nm) (dP d)))):=Mr t Se (by rw [ae]; omega);rw [Qd fun e he z=>hu e (hes e he) d hin z] at hp;have hh:∃ o,h'[h.length]?=some o:=let ⟨o,g,_⟩:=gP t; ⟨o,g⟩;obtain ⟨o,ho⟩:=hh;unfold qJ;simp [dP0];refine ⟨_,hp,Qc x,_,Ij (dR ho),?_,?_,?_⟩
  ·split
   ·exact nd
   ·rename_i z;rw [cz,i4];refine ⟨nd,by simp,fun a ha b hb e=>?_⟩;rw [List.map_singleton,bu] at hb;subst hb e;exact z (by simpa using ha)
  ·intro e;rw [htk];split
   ·rename_i z;rw [mem e,bj,bu];constructor
    ·exact .inl
    ·rintro (z' | rfl)
     ·exact z'
     ·obtain ⟨e',he',en⟩:=aq.mp (show e.nm∈es.map (·.nm) by simpa using z)
      have:=hu e' (hes e' he') e hin en;subst this;exact (mem e').mp he'
   ·rw [bj,bj,mem e]
  ·split
   ·omega
   ·simp; omega
 ·rintro δ h' ⟨es,x,t,nd,mem,le,x2,rfl⟩;have hle:es.length<=63:=by
   have h1:(es.map (·.nm)).length<=(U.map (·.nm)).length:=ik nd fun p hp=>by
    obtain ⟨d,hd,rfl⟩:=aq.mp hp;exact aq.mpr ⟨d,hU d (List.mem_of_mem_take ((mem d).mp hd)),rfl⟩
   simp at h1;omega
  obtain ⟨o,ho,hdc,_⟩:=gP t;refine now ?_;simp [hdc,PR t];have x1:Ext h' (h'++[MO.vw 1 h.length]):=Ext.app _ _;have ei:iI (.ref h'.length) (h'++[MO.vw 1 h.length])=some (es.map dP):=by
   rw [DL aK (gQ x1 t),cj];rfl
  generalize h'++[MO.vw 1 h.length]=h2 at x1 ei;have mem':∀ d,d∈es ↔ d∈ds:=fun d=>by rw [mem d,ae,iu]
  refine Ik (key:=kyL) (emb:=dP) (S:=shape [.inl 0,.inr "",.inl 0]) ei (by omega) (Qe es) (fun _ _=>rfl) (E4 kyL MW nd) (fun d hd h Q kk=>Cb d (hw d ((mem' d).mp hd)).len h Q kk) fun os h3 x3 hp ho=>?_;refine k os h3.length _ ((x.trans x1).trans (x3.trans (Ext.app _ _))) (c4 x.len (c4 x1.len x3.len)) aK ((hp.map _).nodup_iff.mpr nd) (fun d=>(hp.mem_iff).trans (mem' d)) ho
theorem lL (ds:List Dd) (hw:∀ d∈ds,Wf d) (hl:ds.length<=63) (hu:∀ d∈ds,∀ e∈ds,d.nm=e.nm->d=e) (n:Nat) (h:PH) (g:h[n]?=some (.lst (ds.map dP))) (Q:PV->PH->Prop)
  (k:∀ os l h',Ext h h'->h'[l]?=some (.lst (os.map dP))->(os.map (·.nm)).Nodup->(∀ d,d∈os ↔ d∈ds)->oP os->Q (.ref l) h'):(dC [.ref n] h).W Q:=by
 exact Cc ds ds (fun _ h=>h) hl hw (by omega) hu n h g Q fun os l h' a _ b c d e=>k os l h' a b c d e
def lk {β:Type}:List (Str×β)->Str->Option β
 | [],_=>none
 | p :: r,w=>if p.1=w then some p.2 else lk r w
def dpt {β:Type} (R:List (Str×β)) (w:Str) (m:β):List (Str×β):=if (lk R w).isSome then R.map (fun p=>if p.1=w then (p.1,m) else p) else R++[(w,m)]
def em {β:Type} (f:β->PV) (R:List (Str×β)):List (Key×PV):=R.map fun p=>(.inr p.1,f p.2)
theorem Iz {β:Type} (f:β->PV) (w:Str):∀ R:List (Str×β),aW (em f R) (.inr w)=(lk R w).map f
 | []=>rfl
 | p :: r=>by
  show aW ((md p.1,f p.2) :: em f r) (.inr w)=_
  unfold aW lk
  by_cases e:p.1=w
  ·rw [if_pos e,if_pos (by rw [e])]; rfl
  ·rw [if_neg e,if_neg (by simpa using e)]; exact Iz f w r
theorem Sf {β:Type} (f:β->PV) (R:List (Str×β)) (w:Str) (m:β):dM (em f R) (.inr w) (f m)=em f (dpt R w m):=by
 unfold dM dpt;rw [Iz];cases lk R w with
 | none=>simp [em]
 | some z=>
  simp only [Option.map_some,jd,if_true];unfold em;rw [cj,cj];apply d0;intro p _
  by_cases e:p.1=w
  ·simp [e]
  ·simp [e]
theorem MX {β:Type} (w:Str) (m:β) (x:Str):∀ R:List (Str×β),lk (R.map fun p=>if p.1=w then (p.1,m) else p) x=if x=w then (lk R x).map (fun _=>m) else lk R x
 | []=>by simp [lk]
 | p :: r=>by
  rw [ay];have ih:=MX w m x r
  by_cases e:p.1=w
  ·rw [if_pos e];unfold lk;dsimp only
   by_cases z:p.1=x
   ·rw [if_pos z,if_pos z,if_pos (z.symm.trans e)]; rfl
   ·rw [if_neg z,if_neg z,ih]
  ·rw [if_neg e];unfold lk
   by_cases z:p.1=x
   ·rw [if_pos z,if_pos z,if_neg (fun q=>e (z.trans q))]
   ·rw [if_neg z,if_neg z,ih]
theorem MY {β:Type} (w:Str) (m:β) (x:Str):∀ R:List (Str×β),lk (R++[(w,m)]) x=match lk R x with | some y=>some y | none=>if x=w then some m else none
 | []=>by
  show (if w=x then some m else none)=if x=w then some m else none
  by_cases e:w=x
  ·rw [if_pos e,if_pos e.symm]
  ·rw [if_neg e,if_neg fun z=>e z.symm]
 | p :: r=>by
  rw [List.cons_append];unfold lk
  by_cases z:p.1=x
  ·rw [if_pos z,if_pos z]
  ·rw [if_neg z,if_neg z,MY w m x r]
theorem G8 {β:Type} (R:List (Str×β)) (w:Str) (m:β) (x:Str):lk (dpt R w m) x=if x=w then some m else lk R x:=by
 unfold dpt;cases e:lk R w with
 | none=>
  rw [if_neg (by simp),MY]
  by_cases z:x=w
  ·subst z; rw [e,if_pos rfl]
  ·rw [if_neg z];cases lk R x <;> simp [z]
 | some y=>
  rw [if_pos (by simp),MX]
  by_cases z:x=w
  ·subst z; rw [if_pos rfl,if_pos rfl,e]; rfl
  ·rw [if_neg z,if_neg z]
theorem Qf {β:Type} {R:List (Str×β)} {w:Str} {m:β}:(dpt R w m).length<=R.length+1:=by
 unfold dpt;split <;> simp
def nmL (d:Dd):List Key:=[.inr d.nm.1,.inl d.nm.2]
theorem Qg (xs:List Dd):nI (xs.map nmL)=true:=by
 cases xs with
 | nil=>rfl
 | cons a r=>
  rw [ay];unfold nI;rw [cq];refine ⟨rfl,cw.mpr fun z hz=>?_⟩;obtain ⟨q,_,rfl⟩:=aq.mp hz;rfl
theorem U4 (a b:Dd) (e:nmL a=nmL b):a.nm=b.nm:=by
 unfold nmL at e;simp at e;exact Prod.ext e.1 e.2
theorem Qh (d:Dd) (h:PH) (Q:PV->PH->Prop) (k:Q (pv d.nm) h):(iX [dP d] h).W Q:=by
 refine eK ?_;simp [sO,dP0];exact k
abbrev G9 (n:Int) (bs:List Dd):Option Dd:=bs.find? fun b=>reach (hdD b) n
theorem MZ (n:Int) (bs:List Dd) (hb:∀ b∈bs,Wf b/\∃ f l,b.kd=.back f l) (hz:bs.length<=100) (m:Nat) (h:PH) (g:h[m]?=some (.lst (bs.map dP))) (Q:PV->PH->Prop) (k:Q (match G9 n bs with | some b=>pv b.nm | none=>.non) h):(jT [.int n,.ref m] h).W Q:=by
 refine eK ?_;unfold oK;rw [aL];refine oC (n:=m) (xs:=bs.map dP) (h1:=h) (fun q δ h'=>h'=h/\(∀ b∈bs.take q,reach (hdD b) n=false)/\∃ x2 x3 x4 x5,δ=[some (.int n),some (.ref m),x2,x3,x4,x5]) (by simp) g ⟨rfl,by simp,_,_,_,_,rfl⟩ ?_ ?_ ?_
 ·rintro q δ h' hq ⟨rfl,_⟩;exact g
 ·rintro q y δ h' hy ⟨rfl,nr,x2,x3,x4,x5,rfl⟩;rw [au] at hy;obtain ⟨d,hd,rfl⟩:=a7.mp hy;have hq':q < bs.length:=(ab.mp hd).1;obtain ⟨wf,f,l,ek⟩:=hb d (cg hd);have ea:d.act=[.str "back",.int f,.int l]:=by
   have:=wf.act;rw [ek] at this;exact this
  have er:reach (hdD d) n=decide (f<=n/\n<=l):=by
   unfold reach
   show (match d.kd with | .back f l=>decide (f<=n/\n<=l) | _=>false)=_
   rw [ek]
  have split1:bs=bs.take q++d :: bs.drop (q+1):=by
   have e1:bs.drop q=d :: bs.drop (q+1):=drop_cons hd;rw [<- e1,List.take_append_drop]
  refine ⟨_,rfl,?_⟩;unfold qM;rw [aL];simp [dP2,ea];refine now ?_;simp [dP0];have fin:f<=n->n<=l->Q (pv d.nm) h':=fun h1 h2=>by
   have:G9 n bs=some d:=by
    unfold G9;rw [split1,List.find?_append,List.find?_eq_none.mpr (fun b hb=>by rw [nr b hb]; decide),List.find?_cons_of_pos (by rw [show reach (hdD d) n=decide (f<=n/\n<=l) from er]; exact decide_eq_true ⟨h1,h2⟩)]
    rfl
   rw [this] at k;exact k
  have nxt:¬ (f<=n/\n<=l)->∀ b∈bs.take (q+1),reach (hdD b) n=false:=fun z b hb=>by
   rw [g9,hd,bj] at hb;rcases hb with hb | hb
   ·exact nr b hb
   ·rw [show (some d).toList=[d] from rfl,bu] at hb
    subst hb;rw [er];exact decide_eq_false z
  split
  ·rename_i z1;split
   ·rename_i z2; exact fin z1 z2
   ·rename_i z2; exact nxt fun z=>z2 z.2
  ·rename_i z1; exact nxt fun z=>z1 z.1
 ·rintro δ h' ⟨rfl,nr,x2,x3,x4,x5,rfl⟩;rw [ae,iu] at nr;have:G9 n bs=none:=List.find?_eq_none.mpr fun b hb=>by rw [nr b hb]; decide
  rw [this] at k;refine now ?_;simp;exact k
def tkE (x:Str×HD×HD):PV×PV:=(pv (x.1,x.2.1.1),pv (x.1,x.2.2.1))
theorem Cd (p:Str×Int):∀ T:List (Str×HD×HD),(aW (T.map tkE) (pv p)).isSome=true ↔ ∃ x∈T,x.1=p.1/\x.2.1.1=p.2
 | []=>by simp [aW]
 | y :: T=>by
  rw [ay]
  show (aW ((pv (y.1,y.2.1.1),pv (y.1,y.2.2.1)) :: T.map tkE) (pv p)).isSome=true ↔ _
  unfold aW
  by_cases e:(y.1,y.2.1.1)=p
  ·rw [if_pos (by rw [e])];constructor
   ·intro _; exact ⟨y,aj,by rw [<- e],by rw [<- e]⟩
   ·intro _; rfl
  ·rw [if_neg (fun z=>e (sR z)),Cd p T];constructor
   ·rintro ⟨x,hx,q⟩; exact ⟨x,ao _ hx,q⟩
   ·rintro ⟨x,hx,q1,q2⟩;rcases bc.mp hx with rfl | hx
    ·exact (e (Prod.ext q1 q2)).elim
    ·exact ⟨x,hx,q1,q2⟩
theorem Qi (n:Int) (bs:List Dd):hit n (bs.map hdD)=(G9 n bs).map hdD:=by
 unfold hit G9;rw [List.find?_map];rfl
theorem Qj {d:Dd} (w:Wf d):∃ x r,d.act=.str x :: r/\(x="settle" ↔ d.kd=.settle)/\(x="back" ↔ ∃ f l,d.kd=.back f l):=by
 have h:=w.act;cases e:d.kd with
 | settle=>rw [e] at h; exact ⟨"settle",[],h,by simp,by simp; decide⟩
 | back f l=>rw [e] at h; exact ⟨"back",_,h,by simp; decide,by simp⟩
 | other=>
  rw [e] at h;obtain ⟨x,r,e1,n1,n2⟩:=h;exact ⟨x,r,e1,by simp [n1],by simp [n2]⟩
abbrev qR (L:List Dd):Prop:=L.Pairwise (fun a b=>bM (nmL a) (nmL b)=false)
structure BOk (sl lb:Nat) (q:Nat) (h':PH) (R:List (Str×Nat)) (Bd:Str->List Dd):Prop where
 at':∀ w m,lk R w=some m->h'[m]?=some (.lst ((Bd w).map dP))/\lb < m/\m≠sl
 no:∀ w,lk R w=none->Bd w=[]
 inj:∀ w w' m,lk R w=some m->lk R w'=some m->w=w'
 back:∀ w,∀ b∈Bd w,b.nm.1=w/\Wf b/\∃ f l,b.kd=.back f l
 len:∀ w,(Bd w).length<=q
 lenR:R.length<=q
theorem BOk.get {sl lb q:Nat} {h' h2:PH} {R:List (Str×Nat)} {Bd:Str->List Dd} (b:BOk sl lb q h' R Bd) (e:Ext h' h2):BOk sl lb q h2 R Bd:=
 ⟨fun w m z=>let ⟨a,c,d⟩:=b.at' w m z; ⟨e _ _ a,c,d⟩,b.no,b.inj,b.back,b.len,b.lenR⟩
theorem BOk.up {sl lb q:Nat} {h':PH} {R:List (Str×Nat)} {Bd:Str->List Dd} (b:BOk sl lb q h' R Bd):BOk sl lb (q+1) h' R Bd:=
 ⟨b.at',b.no,b.inj,b.back,fun w=>jw (b.len w),jw b.lenR⟩
theorem BOk.aside {sl lb q n:Nat} {h':PH} {o:MO} {R:List (Str×Nat)} {Bd:Str->List Dd} (b:BOk sl lb q h' R Bd) (hn:n<=lb):BOk sl lb q (h'.set n o) R Bd:=
 ⟨fun w m z=>let ⟨a,c,d⟩:=b.at' w m z; ⟨by rw [bf (by omega)]; exact a,c,d⟩,b.no,b.inj,b.back,b.len,b.lenR⟩
theorem BOk.skip {sl lb q n:Nat} {h':PH} {o:MO} {R:List (Str×Nat)} {Bd:Str->List Dd} (b:BOk sl lb q h' R Bd) (hn:∀ x,lk R x≠some n):BOk sl lb q (h'.set n o) R Bd:=
 ⟨fun w m z=>let ⟨a,c,d⟩:=b.at' w m z; ⟨by rw [bf (fun e:n=m=>hn w (e ▸ z))]; exact a,c,d⟩,b.no,b.inj,b.back,b.len,b.lenR⟩
theorem BOk.put {sl lb q m:Nat} {h':PH} {R:List (Str×Nat)} {Bd:Str->List Dd} {w:Str} {bs:List Dd} (b:BOk sl lb q h' R Bd) (hm:h'[m]?=some (.lst (bs.map dP))) (h1:lb < m) (h2:m≠sl) (hf:∀ x,lk R x≠some m)
  (hb:∀ b∈bs,b.nm.1=w/\Wf b/\∃ f l,b.kd=.back f l) (hl:bs.length<=q+1):BOk sl lb (q+1) h' (dpt R w m) (fun x=>if x=w then bs else Bd x) where
 at':=fun x m' z=>by
  rw [G8] at z
  by_cases e:x=w
  ·rw [if_pos e] at z ⊢;cases z
   exact ⟨hm,h1,h2⟩
  ·rw [if_neg e] at z ⊢;exact b.at' x m' z
 no:=fun x z=>by
  rw [G8] at z
  by_cases e:x=w
  ·rw [if_pos e] at z; cases z
  ·rw [if_neg e] at z ⊢; exact b.no x z
 inj:=fun x y m' z1 z2=>by
  rw [G8] at z1 z2
  by_cases e1:x=w <;> by_cases e2:y=w
  ·rw [e1,e2]
  ·rw [if_pos e1] at z1; rw [if_neg e2] at z2; cases z1; exact (hf y z2).elim
  ·rw [if_neg e1] at z1; rw [if_pos e2] at z2; cases z2; exact (hf x z1).elim
  ·rw [if_neg e1] at z1; rw [if_neg e2] at z2; exact b.inj x y m' z1 z2
 back:=fun x y hy=>by
  by_cases e:x=w
  ·simp only [if_pos e] at hy; rw [e]; exact hb y hy
  ·simp only [if_neg e] at hy; exact b.back x y hy
 len:=fun x=>by
  by_cases e:x=w
  ·simp only [if_pos e]; exact hl
  ·simp only [if_neg e]; exact jw (b.len x)
 lenR:=c4 Qf (Nat.succ_le_succ b.lenR)
theorem BOk.grow {sl lb q m:Nat} {h':PH} {R:List (Str×Nat)} {Bd:Str->List Dd} {d:Dd} (b:BOk sl lb q h' R Bd) (hm:lk R d.nm.1=some m) (hw:Wf d) (hk:∃ f l,d.kd=.back f l):
  BOk sl lb (q+1) (h'.set m (.lst ((Bd d.nm.1++[d]).map dP))) R (fun x=>if x=d.nm.1 then Bd d.nm.1++[d] else Bd x) where
 at':=fun x m' z=>by
  obtain ⟨a,c,e⟩:=b.at' x m' z
  by_cases ew:x=d.nm.1
  ·subst ew;rw [hm] at z; cases z;rw [if_pos rfl];exact ⟨dR a,c,e⟩
  ·rw [if_neg ew,bf (fun zz:m=m'=>ew (b.inj _ _ m' z (zz ▸ hm)))];exact ⟨a,c,e⟩
 no:=fun x z=>by
  by_cases e:x=d.nm.1
  ·rw [e,hm] at z; cases z
  ·rw [if_neg e]; exact b.no x z
 inj:=b.inj
 back:=fun x y hy=>by
  by_cases e:x=d.nm.1
  ·simp only [if_pos e] at hy;rcases bj.mp hy with hy | hy
   ·rw [e]; exact b.back _ y hy
   ·rw [bu.mp hy]; exact ⟨e.symm,hw,hk⟩
  ·simp only [if_neg e] at hy; exact b.back x y hy
 len:=fun x=>by
  by_cases e:x=d.nm.1
  ·simp only [if_pos e]; rw [d7]; exact Nat.succ_le_succ (b.len _)
  ·simp only [if_neg e]; exact jw (b.len x)
 lenR:=jw b.lenR
def TI (h:PH) (n sl:Nat) (L:List Dd) (q:Nat) (δ:Ev) (h':PH):Prop:=∃ T R Bd,Ext h h'/\h'[sl]?=some (.lst (L.map dP))/\cM h' h.length=some (T.map tkE)/\h'[h.length+1]?=some (.dK (em PV.ref R))/\BOk sl (h.length+1) q h' R Bd/\T.length<=q/\(∀ x∈T,(x.1,x.2.1.1)∈(L.take q).map (·.nm))/\
   run (L.map tri) (fun _=>[])=T++run ((L.drop q).map tri) (fun w=>(Bd w).map hdD)/\∃ x3 x4 x5 x6 x7,δ=[some (.ref n),some (.ref h.length),some (.ref (h.length+1)),x3,x4,x5,x6,x7]
theorem JN (os:List Dd) (hw:∀ d∈os,Wf d) (hl:os.length<=63) (nd:(os.map (·.nm)).Nodup) (n:Nat) (h:PH) (g:h[n]?=some (.lst (os.map dP))) (Q:PV->PH->Prop)
  (k:∀ L l h',Ext h h'->L.Perm os->qR L->cM h' l=some ((run (L.map tri) fun _=>[]).map tkE)->Q (.ref l) h'):(qN [.ref n] h).W Q:=by
 refine eK ?_;unfold xQ;rw [aL];simp;refine now ?_;rw [aL];simp;have x0:Ext h (h++[MO.dK [],MO.dK []]):=Ext.app _ _;have gt:cM (h++[MO.dK [],MO.dK []]) h.length=some (([]:List (Str×HD×HD)).map tkE):=Ii (by simp);have gb:(h++[MO.dK [],MO.dK []])[h.length+1]?=some (.dK (em PV.ref [])):=by simp [em]
 generalize h++[MO.dK [],MO.dK []]=hA at x0 gt gb;refine now ?_;rw [aL];have gA:=x0 _ _ g
 -- the sort comes first
 have srt:(lH iX true (.ref n) hA).W fun p h2=>∃ L h3,p=.ref h3.length/\h2=h3++[.lst (L.map dP)]/\Ext hA h3/\L.Perm os/\qR L:=
  Ik (key:=nmL) (emb:=dP) (S:=shape [.inr "",.inl 0]) (FZ gA) (by omega) (Qg os) (fun _ _=>rfl) (E4 nmL U4 nd) (fun d hd h Q kk=>Qh d h Q (kk h (Ext.refl h))) fun L h3 x3 hp ho=>⟨L,h3,rfl,rfl,x3,hp,ho⟩
 obtain ⟨p,h2,e2,L,h3,rfl,rfl,x3,hp,hf⟩:=kI srt;have hlA:h.length+1 < hA.length:=(ab.mp gb).1;have hl3:hA.length<=h3.length:=x3.len;have x1:Ext h (h3++[.lst (L.map dP)]):=x0.trans (x3.trans (Ext.app _ _));have gt1:=gQ (x3.trans (Ext.app h3 [.lst (L.map dP)])) gt;have gb1:=(x3.trans (Ext.app h3 [.lst (L.map dP)])) _ _ gb;have gs:(h3++[.lst (L.map dP)])[h3.length]?=some (.lst (L.map dP)):=aK;have hsl:h.length+1 < h3.length:=by omega
 generalize h3.length=sl at e2 gs hsl;generalize h3++[.lst (L.map dP)]=hB at e2 x1 gt1 gb1 gs;have hwL:∀ d∈L,Wf d:=fun d hd=>hw d (hp.mem_iff.mp hd);have ndL:(L.map (·.nm)).Nodup:=(hp.map _).nodup_iff.mpr nd;have hlL:L.length<=63:=by rw [hp.length_eq]; exact hl
 refine oC (n:=sl) (xs:=L.map dP) (h1:=hB) (TI h n sl L) ?_ gs ?_ ?_ ?_ ?_
 ·simp [e2]
 ·exact ⟨[],[],fun _=>[],x1,gs,gt1,gb1,⟨fun w m z=>(by cases z),fun _ _=>rfl,fun w w' m z=>(by cases z),fun w b hb=>(by cases hb),fun _=>b9 _,b9 _⟩,b9 _,fun x hx=>(by cases hx),by simp,_,_,_,_,_,rfl⟩
 ·rintro q δ h' hq ⟨T,R,Bd,x,g1,_⟩;exact g1
 ·rintro q y δ h' hy ⟨T,R,Bd,x,g1,g2,g3,b,lT,nT,hr,x3,x4,x5,x6,x7,rfl⟩;rw [au] at hy;obtain ⟨d,hdq,rfl⟩:=a7.mp hy;have hq':q < L.length:=(ab.mp hdq).1;have hdr:L.drop q=d :: L.drop (q+1):=drop_cons hdq;have htk:L.take (q+1)=L.take q++[d]:=by rw [g9,hdq]; rfl
  have wf:=hwL d (cg hdq);obtain ⟨wd,r,ea,es,eb⟩:=Qj wf;rw [hdr,ay,xU] at hr;have hnew:d.nm∉(L.take q).map (·.nm):=fun z=>by
   have e1:L.map (·.nm)=(L.take q).map (·.nm)++(d :: L.drop (q+1)).map (·.nm):=by rw [<- cz,<- hdr,List.take_append_drop]
   rw [e1,i4] at ndL;exact ndL.2.2 _ z _ (by simp) rfl
  have nT1:∀ x∈T,(x.1,x.2.1.1)∈(L.take (q+1)).map (·.nm):=fun x hx=>by
   rw [htk,cz];exact f7 _ (nT x hx)
  refine ⟨_,rfl,?_⟩;unfold xP;rw [aL];simp [dP0];refine ⟨[some (.ref n),some (.ref h.length),some (.ref (h.length+1)),some (dP d),some (.str d.nm.1),some (.int d.nm.2),x6,x7],by simp [pv],?_⟩;refine now ?_;rw [aL];simp [dP2,ea];refine now ?_;rw [aL];have hlen':h.length+1 < h'.length:=(ab.mp g3).1;have hsl':sl < h'.length:=(ab.mp g1).1
  by_cases c1:wd="settle"
  ·have ek:=es.mp c1;simp [c1,aL];have y1:Ext h' (h'++[MO.lst []]):=Ext.app _ _;have y2:(h'++[MO.lst []])[h'.length]?=some (.lst (([]:List Dd).map dP)):=aK;generalize h'++[MO.lst []]=h2 at y1 y2;have g3':=y1 _ _ g3;have hput:uQ (.ref (h.length+1)) (.str d.nm.1) (.ref h'.length) h2=some (h2.set (h.length+1) (.dK (em PV.ref (dpt R d.nm.1 h'.length)))):=by
    rw [Ih g3' (by unfold em; rw [ae]; have:=b.lenR; omega),Sf]
   have b1:=((b.get y1).put (w:=d.nm.1) (bs:=[]) y2 hlen' (by omega) (fun x z=>by
    have:=(ab.mp (b.at' x _ z).1).1;omega) (fun b hb=>by cases hb) (b9 _)).aside (n:=h.length+1) (o:=.dK (em PV.ref (dpt R d.nm.1 h'.length))) (ai _)
   have x2:Ext h (h2.set (h.length+1) (.dK (em PV.ref (dpt R d.nm.1 h'.length)))):=lK (x.trans y1) (by omega);have gsl:(h2.set (h.length+1) (.dK (em PV.ref (dpt R d.nm.1 h'.length))))[sl]?=some (.lst (L.map dP)):=eL (y1 _ _ g1) (by omega);obtain ⟨o,ho,_,hh⟩:=gP (gQ y1 g2);have gtt:=hh _ (eL (n:=h.length+1) (m:=h.length) (o':=.dK (em PV.ref (dpt R d.nm.1 h'.length))) ho (by omega));refine ⟨_,hput,now ?_⟩;simp;refine ⟨T,_,_,x2,gsl,gtt,dR g3',b1,by omega,nT1,?_,_,_,_,_,_,rfl⟩;rw [hr,show (tri d).2.2=.settle from ek]
   simp only
   congr 2
   funext w
   show (if w=d.nm.1 then [] else (Bd w).map hdD)=_
   by_cases e:w=d.nm.1
   ·rw [if_pos e,if_pos e]; rfl
   ·rw [if_neg e,if_neg e]
  ·have ek:d.kd≠.settle:=fun z=>c1 (es.mpr z);simp [c1];refine now ?_;rw [aL]
   -- what the hand has so far
   have y1:Ext h' (h'++[MO.lst []]):=Ext.app _ _;have y2:(h'++[MO.lst []])[h'.length]?=some (.lst (([]:List Dd).map dP)):=aK;have hdc:eD (.ref (h.length+1)) h'=true:=qB g3;have hget:=Ig (x:=d.nm.1) (z:=.ref h'.length) (y1 _ _ g3);simp [hdc];generalize h'++[MO.lst []]=h2 at y1 y2 hget;rw [Iz] at hget;have b1:=b.get y1;have hmm:∃ m,(((lk R d.nm.1).map PV.ref).getD (.ref h'.length))=.ref m/\h2[m]?=some (.lst ((Bd d.nm.1).map dP)):=by
    cases e:lk R d.nm.1 with
    | some m=>exact ⟨m,rfl,(b1.at' _ _ e).1⟩
    | none=>exact ⟨h'.length,rfl,by rw [b.no _ e]; exact y2⟩
   obtain ⟨m,em1,em2⟩:=hmm;rw [em1] at hget;simp [hget];refine MZ d.nm.2 (Bd d.nm.1) (fun z hz=>(b.back _ z hz).2) (by have:=b.len d.nm.1; omega) m h2 em2 _ ?_;have hh:=Qi d.nm.2 (Bd d.nm.1);have gsl2:=y1 _ _ g1;have g22:=gQ y1 g2;have g32:=y1 _ _ g3;have xh2:=x.trans y1;cases eh:G9 d.nm.2 (Bd d.nm.1) with
   | some z=>
    rw [eh] at hh;simp only [eh];refine now ?_;have hzb:z.nm.1=d.nm.1:=(b.back _ z (List.mem_of_find?_eq_some eh)).1;have hput:uQ (.ref h.length) (pv d.nm) (pv z.nm) h2=some (h2.set h.length (.dD (dM (T.map tkE) (pv d.nm) (pv z.nm)))):=Mr g22 Se (by rw [ae]; omega);have eput:dM (T.map tkE) (pv d.nm) (pv z.nm)=(T++[(d.nm.1,hdD d,hdD z)]).map tkE:=by
     unfold dM;rw [if_neg (fun zz=>by
      obtain ⟨x,hx,e1,e2⟩:=(Cd d.nm T).mp zz;exact hnew (by have:=nT x hx; rw [e1,e2] at this; exact this)),cz]
     congr 1
     have e3:pv z.nm=pv (d.nm.1,z.nm.2):=by rw [<- hzb]
     show [(pv d.nm,pv z.nm)]=[(pv (d.nm.1,d.nm.2),pv (d.nm.1,z.nm.2))]
     rw [e3]
    rw [eput] at hput;obtain ⟨o,ho,_,_⟩:=gP g22;have nz:kT (pv z.nm)=false:=rfl;simp [nz,dP0];refine ⟨_,hput,T++[(d.nm.1,hdD d,hdD z)],R,Bd,lK xh2 (ai _),eL gsl2 (by omega),Ij (dR ho),eL g32 (by omega),(b1.aside (by omega)).up,by simp; omega,?_,?_,_,_,_,_,_,rfl⟩
    ·intro x hx;rcases bj.mp hx with hx | hx
     ·exact nT1 x hx
     ·rw [bu.mp hx,htk,cz];exact ak _ (by simp [hdD])
    ·rw [hr];have e1:hit (tri d).2.1 ((Bd (tri d).1).map hdD)=some (hdD z):=hh;rw [List.append_assoc]
     congr 1
     show (match d.kd,hit d.nm.2 ((Bd d.nm.1).map hdD) with | .settle,_=>_ | _,some b=>_ | .back _ _,none=>_ | .other,none=>_)=_
     rw [hh];cases ek2:d.kd with
     | settle=>exact (ek ek2).elim
     | back f l=>rfl
     | other=>rfl
   | none=>
    rw [eh] at hh;simp only [eh];refine now ?_;simp
    by_cases c2:wd="back"
    ·obtain ⟨f,l,ek2⟩:=eb.mp c2;have hdc2:eD (.ref (h.length+1)) h2=true:=qB g32;simp [c2,hdc2];have z1:Ext h2 (h2++[MO.lst []]):=Ext.app _ _;have z2:(h2++[MO.lst []])[h2.length]?=some (.lst (([]:List Dd).map dP)):=aK;have hl2:h'.length<=h2.length:=y1.len;generalize h2++[MO.lst []]=h4 at z1 z2;have g34:=z1 _ _ g32;have hsd:=Jy (x:=d.nm.1) (z:=.ref h2.length) g34 (by unfold em; rw [ae]; have:=b.lenR; omega);rw [Iz] at hsd;have xh4:=xh2.trans z1;have run2:run (L.map tri) (fun _=>[])=T++run ((L.drop (q+1)).map tri) (fun w=>(if w=d.nm.1 then Bd d.nm.1++[d] else Bd w).map hdD):=by
      rw [hr]
      congr 1
      show (match d.kd,hit d.nm.2 ((Bd d.nm.1).map hdD) with | .settle,_=>_ | _,some b=>_ | .back _ _,none=>_ | .other,none=>_)=_
      rw [hh,ek2]
      show run _ _=run _ _
      congr 1
      funext w
      show (if w=d.nm.1 then (Bd w).map hdD++[hdD d] else (Bd w).map hdD)=_
      by_cases e:w=d.nm.1
      ·rw [if_pos e,if_pos e,e,cz]; rfl
      ·rw [if_neg e,if_neg e]
     cases e:lk R d.nm.1 with
     | some m'=>
      rw [e] at hsd;have b4:=b1.get z1;obtain ⟨q1,q2,q3⟩:=b4.at' _ _ e;simp [hsd,fA q1];have hap:=gM (p:=dP d) q1 (by rw [ae]; have:=b.len d.nm.1; omega);have b5:=b4.grow e wf ⟨f,l,ek2⟩;rw [show (Bd d.nm.1).map dP++[dP d]=(Bd d.nm.1++[d]).map dP by simp] at hap;rw [hap,iE];obtain ⟨o,ho,_,hh2⟩:=gP (gQ z1 g22);exact ⟨T,R,_,lK xh4 (by omega),eL (z1 _ _ gsl2) (by omega),hh2 _ (eL ho (by omega)),eL g34 (by omega),b5,by omega,nT1,run2,_,_,_,_,_,rfl⟩
     | none=>
      rw [e] at hsd;simp at hsd;rw [Sf] at hsd;have q1:(h4.set (h.length+1) (.dK (em PV.ref (dpt R d.nm.1 h2.length))))[h2.length]?=some (.lst (([]:List Dd).map dP)):=eL z2 (by omega);simp [hsd,fA q1];have hap:=gM (p:=dP d) q1 (by simp);rw [show (([]:List Dd).map dP++[dP d])=[d].map dP from rfl] at hap
      rw [hap,iE];have nox:∀ x,lk R x≠some h2.length:=fun x z=>by
       have:=(ab.mp (b1.at' x _ z).1).1;omega
      have b6:=((b1.get z1).aside (n:=h.length+1) (o:=.dK (em PV.ref (dpt R d.nm.1 h2.length))) (ai _)).skip (n:=h2.length) (o:=.lst ([d].map dP)) nox;have b7:=b6.put (w:=d.nm.1) (bs:=[d]) (m:=h2.length) (dR q1) (by omega) (by omega) nox (fun y hy=>by
       rw [bu.mp hy]; exact ⟨rfl,wf,f,l,ek2⟩) (by simp)
      have eB:Bd d.nm.1=[]:=b.no _ e;rw [eB] at run2;obtain ⟨o,ho,_,hh2⟩:=gP (gQ z1 g22);refine ⟨T,_,_,lK (lK xh4 (by omega)) (by omega),eL (eL (z1 _ _ gsl2) (by omega)) (by omega),hh2 _ (eL (eL ho (by omega)) (by omega)),eL (dR g34) (by omega),b7,by omega,nT1,run2,_,_,_,_,_,rfl⟩
    ·have ek2:d.kd=.other:=by
      cases z:d.kd with
      | settle=>exact (ek z).elim
      | back f l=>exact (c2 (eb.mpr ⟨f,l,z⟩)).elim
      | other=>rfl
     simp [c2];refine ⟨T,R,Bd,xh2,gsl2,g22,g32,b1.up,by omega,nT1,?_,_,_,_,_,_,rfl⟩;rw [hr]
     congr 1
     show (match d.kd,hit d.nm.2 ((Bd d.nm.1).map hdD) with | .settle,_=>_ | _,some b=>_ | .back _ _,none=>_ | .other,none=>_)=_
     rw [hh,ek2];rfl
 ·rintro δ h' ⟨T,R,Bd,x,g1,g2,g3,b,lT,nT,hr,x3,x4,x5,x6,x7,rfl⟩;refine now ?_;simp;have hr':run (L.map tri) (fun _=>[])=T:=by
   rw [hr,ae,l9]
   show T++[]=T
   rw [my]
  exact k L h.length h' x hp hf (by rw [hr']; exact g2)
theorem cU {α:Type} (c:α->Bool) (f:α->PV):∀ xs:List α,xs.filterMap (fun x=>if c x=true then some (f x) else none)=(xs.filter c).map f
 | []=>rfl
 | x :: xs=>by
  rw [dj,f9];cases e:c x <;> simp [cU c f xs]
def TkL (L:List Dd) (p:Str×Int):Prop:=∃ x∈run (L.map tri) fun _=>[],x.1=p.1/\x.2.1.1=p.2
structure Ws (ds out L:List Dd):Prop where
 nd:(out.map (·.nm)).Nodup
 ln:(L.map (·.nm)).Nodup
 fall:qR L
 mem:∀ d,d∈L ↔ d∈ds
 out:∀ d,d∈out ↔ d∈ds/\¬ TkL L d.nm
theorem E5 (ds:List Dd) (hw:∀ d∈ds,Wf d) (hl:ds.length<=63) (hu:∀ d∈ds,∀ e∈ds,d.nm=e.nm->d=e) (n:Nat) (h:PH) (g:h[n]?=some (.lst (ds.map dP))) (Q:PV->PH->Prop)
  (k:∀ out L l h',Ext h h'->h'[l]?=some (.lst (out.map dP))->Ws ds out L->oP out->Q (.ref l) h'):(gR [.ref n] h).W Q:=by
 refine eK ?_;unfold oM;rw [aL];simp;refine lL ds hw hl hu n h g _ fun os l h1 x1 g1 nd mem rk=>?_
 try simp
 refine now ?_;rw [aL];simp;have hlo:os.length<=ds.length:=by
  have h1:(os.map (·.nm)).length<=(ds.map (·.nm)).length:=ik nd fun p hp=>by
   obtain ⟨d,hd,rfl⟩:=aq.mp hp;exact aq.mpr ⟨d,(mem d).mp hd,rfl⟩
  simpa using h1
 refine JN os (fun d hd=>hw d ((mem d).mp hd)) (by omega) nd l h1 g1 _ fun L t h2 x2 hp hf ht=>?_
 try simp
 refine now ?_;have g2:=x2 _ _ g1;have hc:=cE (js:=[none,some 2]) (tg:=gN 0) (tst:=bI (aD cT (aD vAt (mV 0) (mC (.int 0))) (mV 1))) (elt:=mV 0) (m:=mV 1) (δ:=[some (.ref n),some (.ref l),some (.ref t)]) (h:=h2) (h1:=h2) (n:=l) (ys:=os) (emb:=dP)
  (fun d=>if (!(aW ((run (L.map tri) fun _=>[]).map tkE) (pv d.nm)).isSome)=true then some (dP d) else none) (by simp) g2 (by omega) (fun d hd=>⟨_,rfl,fun h3 hx=>by
   have hn:cT (pv d.nm) (.ref t) h3=.ok (.bl (!(aW ((run (L.map tri) fun _=>[]).map tkE) (pv d.nm)).isSome)) h3:=Jx (gQ hx ht) rfl;cases e:(aW ((run (L.map tri) fun _=>[]).map tkE) (pv d.nm)).isSome with
   | true=>rw [e] at hn; simp [bT,dP0,hn]
   | false=>rw [e] at hn; simp [bT,dP0,hn]⟩)
 rw [cU (fun d=>!(aW ((run (L.map tri) fun _=>[]).map tkE) (pv d.nm)).isSome) dP] at hc;simp [hc];have ndL:(L.map (·.nm)).Nodup:=(hp.map _).nodup_iff.mpr nd;refine k _ L _ _ ((x1.trans x2).trans (Ext.app _ _)) aK ⟨?_,ndL,hf,fun d=>hp.mem_iff.trans (mem d),fun d=>?_⟩ ?_
 ·exact (fq.map _).nodup nd
 ·rw [av,mem d];have:=Cd d.nm (run (L.map tri) fun _=>[]);unfold TkL;cases e:aW ((run (L.map tri) fun _=>[]).map tkE) (pv d.nm) with
  | none=>
   rw [e] at this;exact and_congr m7 ⟨fun _ z=>(by have q:=this.mpr z; cases q),fun _=>rfl⟩
  | some p=>
   rw [e] at this;exact and_congr m7 ⟨fun z=>(by cases z),fun z=>(z (this.mp rfl)).elim⟩
 ·exact rk.sublist fq
theorem N0 {F G:List Dd} (nF:(F.map (·.nm)).Nodup) (nG:(G.map (·.nm)).Nodup) (hF:qR F) (hG:qR G) (m:∀ x,x∈F ↔ x∈G):F=G:=by
 refine ip (le:=fun (a b:Dd)=>bM (nmL a) (nmL b)=false) (fun a b ha hb h1 h2=>?_) hF hG ?_
 ·have e:nmL a=nmL b:=kM rfl h1 h2;have e2:a.nm=b.nm:=by
   unfold nmL at e;simp at e;exact Prod.ext e.1 e.2
  obtain ⟨j,hj⟩:=dw.mp ha;obtain ⟨k,hk⟩:=dw.mp ((m b).mpr hb);have:=Sd nF (i:=j) (j:=k) (a:=b.nm) (by rw [au,hj]; simp [e2]) (by rw [au,hk]; rfl);subst this;rw [hj] at hk;exact bh hk
 ·exact (gg (fe _ (fun a b q e=>q (by rw [e])) nF) (fe _ (fun a b q e=>q (by rw [e])) nG)).mpr m
def kdOf:Ac->Kd
 | .settle=>.settle
 | .back a b=>.back a b
 | .add _=>.other
def acL:Ac->List PV
 | .settle=>[.str "settle"]
 | .back a b=>[.str "back",.int a,.int b]
 | .add n=>[.str "add",.tup [.str "t",.int 1],.int n]
def dD (d:De):Dd:=⟨d.nm,d.sn,kdOf d.ac,acL d.ac⟩
theorem Ce (d:De):deV d=dP (dD d):=by
 obtain ⟨nm,sn,ac⟩:=d;cases ac <;> rfl
theorem IA (T:List De):T.map deV=(T.map dD).map dP:=by
 rw [cj];exact d0 fun d _=>Ce d
theorem Wt {d:De} (l:d.sn.length<=100):Wf (dD d):=by
 refine ⟨l,?_,?_⟩
 ·obtain ⟨nm,sn,ac⟩:=d;cases ac with
  | settle=>exact rfl
  | back a b=>exact rfl
  | add n=>exact ⟨_,_,rfl,by decide +kernel,by decide +kernel⟩
 ·obtain ⟨nm,sn,ac⟩:=d;cases ac <;> rfl
theorem Wu {d:De}:(dP (dD d)).pl 39=true:=by rw [<- Ce]; exact C8 d
structure nJ (R:List Row) (os:List Dd):Prop where
 nd:(os.map (·.nm)).Nodup
 me:∀ d,d∈os ↔ ∃ z∈R,dD z.d=d
 br:oP os
theorem xV {xs ys:List Dd} (nx:(xs.map (·.nm)).Nodup) (ny:(ys.map (·.nm)).Nodup) (bx:oP xs) (b':oP ys) (m:∀ d,d∈xs ↔ d∈ys):xs=ys:=by
 have uq:∀ a∈xs,∀ b∈xs,a.nm=b.nm->a=b:=fun a ha b hb e=>by
  obtain ⟨j,hj⟩:=dw.mp ha;obtain ⟨k,hk⟩:=dw.mp hb;have:=Sd nx (i:=j) (j:=k) (a:=b.nm) (by rw [au,hj]; simp [e]) (by rw [au,hk]; rfl);subst this;rw [hj] at hk;exact bh hk
 refine ip (le:=fun (a b:Dd)=>bM (kyL b) (kyL a)=false) (fun a b ha hb h1 h2=>?_) bx b' ?_
 ·exact uq a ha b ((m b).mpr hb) (MW a b (kM (by rfl) h2 h1))
 ·exact (gg (fe _ (fun a b q e=>q (by rw [e])) nx) (fe _ (fun a b q e=>q (by rw [e])) ny)).mpr m
theorem nJ.one {R:List Row} {os ps:List Dd} (a:nJ R os) (b:nJ R ps):os=ps:=xV a.nd b.nd a.br b.br fun d=>(a.me d).trans (b.me d).symm
theorem Cf {R:List Row} (inc:Inc R) {z y:Row} (hz:z∈R) (hy:y∈R) (e:z.d.nm=y.d.nm):z=y:=by
 obtain ⟨i,hi⟩:=dw.mp hz;obtain ⟨j,hj⟩:=dw.mp hy;obtain ⟨l1,e1⟩:=ab.mp hi;obtain ⟨l2,e2⟩:=ab.mp hj;have pw:=ic.mp inc;rcases Nat.lt_trichotomy i j with h | h | h
 ·have:=pw i j l1 l2 h;rw [e1,e2,e] at this;exact absurd (this rfl) (Int.lt_irrefl _)
 ·subst h;exact e1.symm.trans e2
 ·have:=pw j i l2 l1 h;rw [e1,e2,e] at this;exact absurd (this rfl) (Int.lt_irrefl _)
theorem Qk {R:List Row} (inc:Inc R):((R.map fun z=>dD z.d).map (·.nm)).Nodup:=by
 unfold List.Nodup;rw [df,df];refine inc.imp fun {a b} h e=>?_;have e:a.d.nm=b.d.nm:=e;have:=h (congrArg Prod.fst e);rw [e] at this;omega
theorem eE.l100 {hs:List Str} (h6:hs.length<=6) {z:Row} (o:eE hs z):z.d.sn.length<=100:=by
 have:=o.sn.1;omega
theorem U5 {hs:List Str} (h6:hs.length<=6) {R:List Row} (inc:Inc R) (ok:∀ z∈R,eE hs z) {T:List De} (mem:∀ d,d∈T ↔ d∈R.map (·.d)):(∀ d∈T.map dD,Wf d)/\(∀ d∈T.map dD,∀ e∈T.map dD,d.nm=e.nm->d=e)/\∀ d,d∈T.map dD ↔ ∃ z∈R,dD z.d=d:=by
 have m:∀ d,d∈T.map dD ↔ ∃ z∈R,dD z.d=d:=fun d=>by
  constructor
  ·intro h;obtain ⟨e,he,rfl⟩:=aq.mp h;obtain ⟨z,hz,rfl⟩:=aq.mp ((mem e).mp he);exact ⟨z,hz,rfl⟩
  ·rintro ⟨z,hz,rfl⟩;exact aq.mpr ⟨z.d,(mem z.d).mpr (aq.mpr ⟨z,hz,rfl⟩),rfl⟩
 refine ⟨fun d hd=>?_,fun d hd e he h=>?_,m⟩
 ·obtain ⟨z,hz,rfl⟩:=(m d).mp hd;exact Wt ((ok z hz).l100 h6)
 ·obtain ⟨z,hz,rfl⟩:=(m d).mp hd;obtain ⟨y,hy,rfl⟩:=(m e).mp he;rw [Cf inc hz hy h]
theorem N1 {hs:List Str} (h6:hs.length<=6) {R:List Row} (inc:Inc R) (ok:∀ z∈R,eE hs z) {T:List De} (lT:T.length<=63) (mem:∀ d,d∈T ↔ d∈R.map (·.d)) {os:List Dd} (o:nJ R os) {l:Nat} {h:PH} (g:h[l]?=some (.lst (T.map deV))) (Q:PV->PH->Prop)
  (k:∀ l' h',Ext h h'->h'[l']?=some (.lst (os.map dP))->Q (.ref l') h'):(dC [.ref l] h).W Q:=by
 obtain ⟨t1,t2,t3⟩:=U5 h6 inc ok mem;rw [IA] at g;refine lL (T.map dD) t1 (by rw [ae]; exact lT) t2 l h g Q fun os' l' h' x' g' n' m' b'=>?_;have:os'=os:=nJ.one (R:=R) ⟨n',fun d=>(m' d).trans (t3 d),b'⟩ o;subst this;exact k l' h' x' g'
def dW (M:Int) (d:Dd):Bool:=decide (1+tot d.seen<=M)
def uS (S:Seen) (nm:Str×Int):Bool:=match look S nm.1 with | some n=>decide (nm.2<=n) | none=>false
theorem AQ (S:Seen) (nm:Str×Int) (h:PH):fE [sv S,pv nm] h=.ok (.bl (uS S nm)) h:=by
 have w:(fE [sv S,pv nm] h).W fun q h'=>q=.bl (uS S nm)/\h'=h:=by
  refine eK ?_;unfold xN;rw [aL];refine LY (xs:=S.map pv) (fun q δ h'=>h'=h/\look (S.drop q) nm.1=look S nm.1/\∃ x2 x3,δ=[some (sv S),some (pv nm),x2,x3]) (.inl (by simp [Iu])) ⟨rfl,rfl,_,_,rfl⟩ ?_ ?_
  ·rintro q x δ h' hx ⟨rfl,hk,x2,x3,rfl⟩;rw [au] at hx;obtain ⟨p,hp,rfl⟩:=a7.mp hx;have hd:S.drop q=p :: S.drop (q+1):=by
    obtain ⟨hl,e⟩:=ab.mp hp;rw [jo hl,e]
   rw [hd,fU] at hk;refine ⟨_,by simp [pv]; rfl,?_⟩;unfold xM
   by_cases e:p.1=nm.1
   ·rw [if_pos e] at hk;simp [pv,e,uS];rw [<- hk]
   ·rw [if_neg e] at hk;simp [pv,e];exact hk
  ·rintro δ h' ⟨rfl,hk,x2,x3,rfl⟩;refine now ?_;rw [ae,l9] at hk;simp [<- hk,look,uS]
 obtain ⟨q,h',e,rfl,rfl⟩:=kI w;exact e
def IB (R:List Row) (x:Str):Option Row:=(R.filter fun z=>hB x z.d).getLast?
def sT (hs:List Str) (R:List Row) (p:Str×Int) (x:Str):Bool:=match IB R x with
 | none=>false
 | some z=>decide (p.2<=z.c.getD (hs.idxOf p.1) 0)
theorem Ql {hs:List Str} {R:List Row} {x:Str} {v:PV} (a:MN hs R x v):∃ S,v=sv S/\∀ p:Str×Int,p.1∈hs->1<=p.2->uS S p=sT hs R p x:=by
 have a:match IB R x with | none=>v=.tup [] | some z=>∃ S,v=sv S/\cY hs z.c S:=a
 cases e:IB R x with
 | none=>
  rw [e] at a;refine ⟨[],a,fun p _ _=>?_⟩;unfold sT;rw [e];rfl
 | some z=>
  rw [e] at a;obtain ⟨S,rfl,so⟩:=a;refine ⟨S,rfl,fun p h1 h2=>?_⟩;unfold uS sT;rw [so.lk,e];unfold kC
  by_cases q:0 < z.c.getD (hs.idxOf p.1) 0
  ·rw [if_pos ⟨h1,q⟩]
  ·rw [if_neg fun w=>q w.2]
   symm
   dsimp only;rw [decide_eq_false_iff_not];omega
def allB (hs:List Str) (R:List Row) (p:Str×Int):Bool:=hs.all (sT hs R p)
noncomputable def bnd (hs:List Str) (T:List De):Int:=kJ (hs.map fun x=>stV (maxD ((T.filter fun d=>acB d.ac).filter fun d=>decide (d.nm.1=x))))
theorem E6 {hs:List Str} {R:List Row}:∀ {vs:List PV} (P:Nat->Str->Seen->Prop),(∀ (i:Nat) (v:PV),vs[i]?=some v->∃ x S,hs[i]?=some x/\v=sv S/\P i x S)->∃ Ss:List Seen,vs=Ss.map sv/\∀ (i:Nat) (S:Seen),Ss[i]?=some S->∃ x S',hs[i]?=some x/\sv S=sv S'/\P i x S'
 | [],_,_=>⟨[],rfl,fun i S h=>by simp at h⟩
 | v :: vs,P,h=>by
  obtain ⟨x,S,hx,rfl,hp⟩:=h 0 v rfl;cases hs with
  | nil=>simp at hx
  | cons y hs=>
   obtain ⟨Ss,e,q⟩:=E6 (hs:=hs) (R:=R) (vs:=vs) (fun i=>P (i+1)) fun i u hu=>by
    obtain ⟨x',S',h1,h2,h3⟩:=h (i+1) u (by simpa using hu)
    exact ⟨x',S',by simpa using h1,h2,h3⟩
   refine ⟨S :: Ss,by rw [e]; rfl,fun i S' hi=>?_⟩;cases i with
   | zero=>
    simp at hi;subst hi;exact ⟨x,S,hx,rfl,hp⟩
   | succ i=>
    obtain ⟨x',S'',h1,h2,h3⟩:=q i S' (by simpa using hi)
    exact ⟨x',S'',by simpa using h1,h2,h3⟩
theorem U6 {S T:Seen} (h:sv S=sv T):S=T:=by
 have h:S.map pv=T.map pv:=PV.tup.inj h;exact (List.map_inj_right fun a b e=>sR e).mp h
theorem nJ.ok {hs:List Str} (h6:hs.length<=6) {R:List Row} (ok:∀ z∈R,eE hs z) {os:List Dd} (o:nJ R os) {d:Dd} (h:d∈os):d.seen.length<=100/\d.nm.1∈hs/\1<=d.nm.2:=by
 obtain ⟨z,hz,rfl⟩:=(o.me d).mp h;obtain ⟨w,c0,hw,lc,c1,ec,en,so⟩:=(ok z hz).ex;refine ⟨(ok z hz).l100 h6,?_,?_⟩
 ·show z.d.nm.1∈hs
  rw [en];have:hs.getD w "" = hs[w]:=by simp [hw]
  show hs.getD w "" ∈ hs
  rw [this];exact fm hw
 ·show 1<=z.d.nm.2
  rw [en]
  show 1<=c0.getD w 0+1
  omega
theorem U7 {hs:List Str} (h6:hs.length<=6) {R:List Row} (ok:∀ z∈R,eE hs z) {T:List De} (mem:∀ d,d∈T ↔ d∈R.map (·.d)):∀ d∈T,d.sn.length<=1000:=fun d hd=>by
 obtain ⟨z,hz,rfl⟩:=aq.mp ((mem d).mp hd);have:=(ok z hz).l100 h6;omega
theorem nJ.len {R:List Row} {os:List Dd} (o:nJ R os) (inc:Inc R):os.length=R.length:=by
 have n:=Qk inc;have p:os.Perm (R.map fun z=>dD z.d):=(gg (fe _ (fun a b q e=>q (by rw [e])) o.nd) (fe _ (fun a b q e=>q (by rw [e])) n)).mpr fun d=>(o.me d).trans (by rw [aq]);rw [p.length_eq,ae]
def lO (hs:List Str) (R:List Row) (M:Int) (os:List Dd):List (Str×Int):=((os.filter (dW M)).map (·.nm)).filter (allB hs R)
theorem Qm {hs:List Str} (nd:hs.Nodup) (h0:hs≠[]) (h6:hs.length<=6) {R:List Row} (inc:Inc R) (ok:∀ z∈R,eE hs z) (lR:R.length<=60) {T:List De} (lT:T.length<=63) (mem:∀ d,d∈T ↔ d∈R.map (·.d)) {os:List Dd} (o:nJ R os) {lh l:Nat} {h:PH} (gh:h[lh]?=some (.lst (hs.map PV.str))) (g:h[l]?=some (.lst (T.map deV))) (Q:PV->PH->Prop)
  (k:∀ l' h',Ext h h'->h.length<=l'->h'[l']?=some (.lst ((lO hs R (bnd hs T) os).map pv))->Q (.ref l') h'):(BZ [.ref lh,.ref l] h).W Q:=by
 refine eK ?_;unfold G4;rw [aL];simp;refine xT h0 h6 (by omega) (U7 h6 ok mem) gh g _ fun h1 x1=>?_;have lo:=o.len inc;generalize hM:kJ (hs.map fun x=>stV (maxD ((T.filter fun d=>acB d.ac).filter fun d=>decide (d.nm.1=x))))=M;have hM:bnd hs T=M:=hM;rw [hM] at k;refine now ?_;rw [aL];obtain ⟨p2,h2,e2,l2,rfl,x2,g2⟩:=kI (N1 h6 inc ok lT mem o (x1 _ _ g) (fun p h'=>∃ l,p=.ref l/\Ext h1 h'/\h'[l]?=some (.lst (os.map dP))) fun l h' y g=>⟨l,rfl,y,g⟩);rw [nM];refine vF (ys:=os) (emb:=dP) (dW M) (fun d=>pv d.nm) (cZ (by rw [wL]; simp [e2]) g2) (cK g2) (by omega) (fun d hd=>⟨_,rfl,fun h3 x3 Q3 k3=>?_,fun h3 x3=>by simp [bT,dP0]⟩) fun l3 h3 x3 _ g3=>?_
 ·simp [bT];refine mR d (o.ok h6 ok hd).1 _ _ fun h5 x5=>?_;simp;exact k3 _ x5
 refine now ?_;rw [aL,nM];have y3:=(x1.trans x2).trans x3;refine Ca (fun i v=>∃ x S,hs[i]?=some x/\v=sv S/\∀ p:Str×Int,p.1∈hs->1<=p.2->uS S p=sT hs R p x) (cZ (by simp) (y3 _ _ gh)) (cK (y3 _ _ gh)) (by rw [ae]; omega) (fun i v hv=>?_) fun l4 h4 vs x4 _ lv g4 ov=>?_
 ·rw [au] at hv;obtain ⟨x,hx,rfl⟩:=a7.mp hv;refine ⟨_,rfl,fun h5 x5 Q5 k5=>?_⟩;simp [bT];refine MP nd h6 inc ok (by omega) mem x (x5 _ _ (y3 _ _ g)) _ fun v h6' x6 dv=>?_;obtain ⟨S,eS,hS⟩:=Ql dv;exact k5 v h6' x6 ⟨x,S,hx,eS,hS⟩
 refine now ?_;rw [ae] at lv;obtain ⟨Ss,rfl,oS⟩:=E6 (R:=R) (fun i x S=>∀ p:Str×Int,p.1∈hs->1<=p.2->uS S p=sT hs R p x) ov;rw [ae] at lv;rw [nN];have g3':=x4 _ _ g3;have e3:((os.filter (dW M)).map fun d=>pv d.nm)=((os.filter (dW M)).map (·.nm)).map pv:=by rw [cj]; rfl
 rw [e3] at g3';refine vF (ys:=(os.filter (dW M)).map (·.nm)) (emb:=pv) (allB hs R) pv (cZ (by simp) g3') (cK g3') ?_ (fun p hp=>⟨_,rfl,fun h5 x5 Q5 k5=>?_,fun h5 x5=>by simp [bT]⟩) fun l6 h6' x6 l6' g6=>?_
 ·rw [ae];have:=c9 (dW M) os;omega
 ·obtain ⟨d,hd,rfl⟩:=aq.mp hp;obtain ⟨_,d2,d3⟩:=o.ok h6 ok (av.mp hd).1;have g4':=x5 _ _ g4;have hc:=cE (m:=mV 1) (n:=l4) (js:=[none,some 0]) (tg:=gN 0) (tst:=dJ) (elt:=bE 2 fE (aB (mV 0) (aB (mV 1) aI))) (δ:=[some (pv d.nm),some (.ref l4)]) (h:=h5) (h1:=h5) (ys:=Ss) (emb:=sv)
   (fun S=>some (.bl (uS S d.nm))) (by simp) g4' (by omega) (fun S hS=>⟨_,rfl,fun h7 x7=>⟨rfl,by simp [bT,AQ]⟩⟩)
  rw [filterMap_some] at hc;have eb:(Ss.map fun S=>PV.bl (uS S d.nm))=(hs.map (sT hs R d.nm)).map PV.bl:=by
   rw [cj];refine g7 fun i=>?_;rw [au,au];cases e:Ss[i]? with
   | none=>
    have:hs[i]?=none:=by
     rw [jm] at e ⊢;omega
    rw [this];rfl
   | some S=>
    obtain ⟨x,S',hx,es,hS⟩:=oS i S e;rw [U6 es,hx];simp only [Option.map_some,Function.comp];rw [hS d.nm d2 d3]
  rw [eb] at hc;have g8:(h5++[MO.lst ((hs.map (sT hs R d.nm)).map PV.bl)])[h5.length]?=some (.lst ((hs.map (sT hs R d.nm)).map PV.bl)):=aK;have x8:Ext h5 (h5++[MO.lst ((hs.map (sT hs R d.nm)).map PV.bl)]):=Ext.app _ _;have va:=wM g8;have ea:(hs.map (sT hs R d.nm)).all id=allB hs R d.nm:=by rw [List.all_map]; rfl
  rw [ea] at va;have k5:=k5 _ x8;generalize h5++[MO.lst ((hs.map (sT hs R d.nm)).map PV.bl)]=h8 at hc va k5;simp [bT] at hc ⊢;rw [hc,iE,va];simp;exact k5
 ·exact k l6 h6' ((y3.trans x4).trans x6) (c4 (y3.trans x4).len l6') g6
structure InF (R:List Row) (out:List Dd):Prop where
 nd:(out.map (·.nm)).Nodup
 br:oP out
 ex:∃ L:List Dd,(L.map (·.nm)).Nodup/\qR L/\(∀ d,d∈L ↔ ∃ z∈R,dD z.d=d)/\∀ d,d∈out ↔ (∃ z∈R,dD z.d=d)/\¬ TkL L d.nm
theorem InF.one {R:List Row} {a b:List Dd} (x:InF R a) (y:InF R b):a=b:=by
 obtain ⟨F,f0,f1,f2,f3⟩:=x.ex;obtain ⟨G,g0,g1,g2,g3⟩:=y.ex;have e:=N0 f0 g0 f1 g1 fun d=>(f2 d).trans (g2 d).symm;subst e;exact xV x.nd y.nd x.br y.br fun d=>(f3 d).trans (g3 d).symm
theorem E7 {hs:List Str} (h6:hs.length<=6) {R:List Row} (inc:Inc R) (ok:∀ z∈R,eE hs z) {T:List De} (lT:T.length<=63) (mem:∀ d,d∈T ↔ d∈R.map (·.d)) {l:Nat} {h:PH} (g:h[l]?=some (.lst (T.map deV))) (Q:PV->PH->Prop)
  (k:∀ out l' h',Ext h h'->h'[l']?=some (.lst (out.map dP))->InF R out->Q (.ref l') h'):(gR [.ref l] h).W Q:=by
 obtain ⟨t1,t2,t3⟩:=U5 h6 inc ok mem;rw [IA] at g;refine E5 (T.map dD) t1 (by rw [ae]; exact lT) t2 l h g Q fun out L l' h' x' g' f b'=>?_;exact k out l' h' x' g' ⟨f.nd,b',L,f.ln,f.fall,fun d=>(f.mem d).trans (t3 d),fun d=>by rw [f.out d,t3 d]⟩
theorem InF.sub {R:List Row} {out:List Dd} (x:InF R out) {d:Dd} (h:d∈out):∃ z∈R,dD z.d=d:=by
 obtain ⟨F,f0,f1,f2,f3⟩:=x.ex;exact ((f3 d).mp h).1
theorem InF.len {R:List Row} {out:List Dd} (x:InF R out):out.length<=R.length:=by
 have h1:(out.map (·.nm)).length<=(R.map fun z=>z.d.nm).length:=ik x.nd fun p hp=>by
  obtain ⟨d,hd,rfl⟩:=aq.mp hp;obtain ⟨z,hz,rfl⟩:=x.sub hd;exact aq.mpr ⟨z,hz,rfl⟩
 simpa using h1
theorem xW {hs:List Str} (h0:hs≠[]) (h6:hs.length<=6) {R:List Row} (inc:Inc R) (ok:∀ z∈R,eE hs z) (lR:R.length<=60) {T:List De} (lT:T.length<=63) (mem:∀ d,d∈T ↔ d∈R.map (·.d)) {out:List Dd} (o:InF R out) {lh l:Nat} {h:PH} (gh:h[lh]?=some (.lst (hs.map PV.str))) (g:h[l]?=some (.lst (T.map deV))) (Q:PV->PH->Prop)
  (k:∀ l' h',Ext h h'->h.length<=l'->h'[l']?=some (.lst ((out.filter (dW (bnd hs T))).map dP))->Q (.ref l') h'):(fT [.ref lh,.ref l] h).W Q:=by
 refine eK ?_;unfold sP;rw [aL];simp;refine xT h0 h6 (by omega) (U7 h6 ok mem) gh g _ fun h1 x1=>?_;generalize hM:kJ (hs.map fun x=>stV (maxD ((T.filter fun d=>acB d.ac).filter fun d=>decide (d.nm.1=x))))=M;have hM:bnd hs T=M:=hM;rw [hM] at k;refine now ?_;rw [nN];obtain ⟨p2,h2,e2,l2,rfl,x2,g2⟩:=kI (E7 h6 inc ok lT mem (x1 _ _ g) (fun p h'=>∃ l,p=.ref l/\Ext h1 h'/\h'[l]?=some (.lst (out.map dP))) fun out' l h' y g o'=>⟨l,rfl,y,by rw [o.one o']; exact g⟩);have lo:=o.len;refine vF (ys:=out) (emb:=dP) (dW M) dP (cZ (by rw [wL]; simp [e2]) g2) (cK g2) (by omega) (fun d hd=>⟨_,rfl,fun h3 x3 Q3 k3=>?_,fun h3 x3=>by simp [bT]⟩) fun l3 h3 x3 l3' g3=>?_
 ·obtain ⟨z,hz,rfl⟩:=o.sub hd;simp [bT];refine mR (dD z.d) ((ok z hz).l100 h6) _ _ fun h5 x5=>?_;simp;exact k3 _ x5
 ·exact k l3 h3 ((x1.trans x2).trans x3) (c4 (x1.trans x2).len l3') g3
theorem U8 (ps:List (Str×Int)):(ps.map pv).all (PV.pl 39)=true:=by
 rw [cw];intro x hx;obtain ⟨p,_,rfl⟩:=aq.mp hx;rfl
theorem U9 {R:List Row} {xs:List Dd} (h:∀ d∈xs,∃ z∈R,dD z.d=d):(xs.map dP).all (PV.pl 39)=true:=by
 rw [cw];intro x hx;obtain ⟨d,hd,rfl⟩:=aq.mp hx;obtain ⟨z,_,rfl⟩:=h d hd;exact Wu
def tv (n:Nat) (c:List Int):Int:=((ba n).map fun k=>c.getD k 0).sum
theorem qS (n:Nat) (c:List Int):tv (n+1) c=tv n c+c.getD n 0:=by
 unfold tv;rw [List.range_succ,cz,List.sum_append];simp
theorem IC {a b:List Int}:∀ n,(∀ k,k < n->a.getD k 0<=b.getD k 0)->tv n a<=tv n b
 | 0,_=>by simp [tv]
 | n+1,h=>by
  have h1:=IC n fun k hk=>h k (by omega);have h2:=h n (by omega);rw [qS,qS]; omega
theorem Sg {a b:List Int} {w:Nat}:∀ n,w < n->(∀ k,k < n->a.getD k 0<=b.getD k 0)->a.getD w 0 < b.getD w 0->tv n a < tv n b
 | 0,h,_,_=>by omega
 | n+1,hw,h,hl=>by
  have h2:=h n (by omega);rw [qS,qS]
  by_cases e:w=n
  ·subst e;have h1:=IC w fun k hk=>h k (by omega);omega
  ·have h1:=Sg n (by omega) (fun k hk=>h k (by omega)) hl;omega
theorem ID (hs:List Str) (c:List Int) (nn:∀ k,0<=c.getD k 0):∀ ks:List Nat,((ks.filterMap (prs hs c)).map (·.2)).sum=(ks.map fun k=>c.getD k 0).sum
 | []=>rfl
 | k :: ks=>by
  rw [dj,ay,m4,<- ID hs c nn ks];unfold prs
  by_cases e:0 < c.getD k 0
  ·simp only [if_pos e,ay,m4]
  ·simp only [if_neg e];have:=nn k;omega
theorem N2 {a b:List Int} (p:a.Perm b):a.sum=b.sum:=by
 induction p with
 | nil=>rfl
 | cons x _ ih=>rw [m4,m4,ih]
 | swap x y l=>simp only [m4]; omega
 | trans _ _ h1 h2=>exact h1.trans h2
theorem cY.tot {hs:List Str} (nd:hs.Nodup) {c:List Int} (nn:∀ k,0<=c.getD k 0) {S:Seen} (a:cY hs c S):tot S=tv hs.length c:=by
 have nS:=fV a.asc;have nP:=MM (c:=c) nd;have p:S.Perm ((ba hs.length).filterMap (prs hs c)):=by
  rw [gg (fe _ (fun a b q e=>q (by rw [e])) nS) (fe _ (fun a b q e=>q (by rw [e])) nP)];intro q;rw [Iv nd (x:=q.1) (n:=q.2),<- a.lk];exact ⟨fun h=>iY nS h,fun h=>qO h⟩
 show (S.map (·.2)).sum=_
 unfold tv;rw [<- ID hs c nn];exact N2 (p.map (·.2))
theorem N3 (c:Int) (h:PH):∃ n,qK [.int c,.int 1] h=.ok (.int n) h:=by
 have w:(qK [.int c,.int 1] h).W fun p h'=>∃ n,p=.int n/\h'=h:=by
  refine eK ?_;unfold C0;rw [aL,kZ];have last:∀ E:FE,(∀ n,E.rt (.int n) h)->Lt (aZ (bO 2 (aD gW (aD Bx (aD bK (aD bK (mV 0) (aD Bx (mC (.int 7919)) (mV 1))) (mC (.int 1))) (mC (.int 48271))) (mC (.int 2147483647))))
   (cB (aD gW (aD Bx (mV 2) (aD bK (aD oA (mV 2) (mC (.int 1009))) (mC (.int 69621)))) (mC (.int 2147483647))))) E [some (.int c),some (.int 1),none] h:=fun E k=>by
   refine now ?_;rw [aL];simp (disch:=omega);have b1:=i7 ((c+7919+1)*48271) (b:=2147483647) (by omega);have b2:=ji ((c+7919+1)*48271) (b:=2147483647) (by omega);generalize (c+7919+1)*48271 % 2147483647=f at b1 b2;refine now ?_;simp (disch:=omega);exact k _
  have p9:(0:Int) < 10 ^ (9:Int).toNat:=by decide +kernel
  generalize hq:(10:Int) ^ (9:Int).toNat=P at p9;simp (disch:=first | omega | exact p9) [hq]
  split
  ·intro _;exact last _ fun n=>⟨⟨n,rfl⟩,rfl⟩
  ·exact last _ fun n=>⟨⟨n,rfl⟩,rfl⟩
 obtain ⟨p,h',e,n,rfl,rfl⟩:=kI w;exact ⟨n,e⟩
theorem U' (way many c:Int) (h:PH) (Q:PV->PH->Prop) (k:∀ a:Ac,Q (acV a) h):(DU [.int way,.int many,.int c] h).W Q:=by
 refine eK ?_;unfold MB;rw [aL];obtain ⟨N,eN⟩:=N3 c h;simp [eN];refine now ?_;rw [aL,kZ];have last:∀ x4:Option PV,Lt (cB (jQ (aB (mC (.str "add")) (aB (jQ (aB (mC (.str "t")) (aB (mC (.int 1)) aI))) (aB (aD gW (mV 2) (aD LH (mC (.int 10)) (mC (.int 39)))) aI))))) { nx:=fun _ h=>Q .non h,rt:=Q } [some (.int way),some (.int many),some (.int c),some (.int N),x4] h:=fun x4=>by
  refine now ?_;have p39:(0:Int) < 10 ^ (39:Int).toNat:=by decide +kernel
  simp (disch:=first | omega | exact p39)
  exact k (.add _)
 by_cases e1:way < 2
 ·simp [e1];exact k .settle
 ·simp [e1];refine now ?_;rw [aL,kZ]
  by_cases e2:way=2
  ·by_cases e3:0 < many
   ·simp [e2,e3];rw [aL];simp (disch:=omega);have b1:=i7 N (b:=many) (by omega);have b2:=ji N (b:=many) (by omega);generalize N % many=f at b1 b2;refine now ?_;simp (disch:=omega);exact k (.back _ _)
   ·simp [e2,e3];have:=last none;rw [e2] at this;exact this
  ·simp [e2];exact last none
theorem fJ {α:Type} (xs:List α) (i j:Nat) (v d:α) (hi:i < xs.length):(xs.set i v).getD j d=if i=j then v else xs.getD j d:=by
 by_cases e:i=j
 ·subst e; simp [hi]
 ·rw [if_neg e];simp [bf e]
theorem IE (z:Str) (n:Int):(Txt.mul z n).length=z.length*n.toNat:=by
 have h:=PyProof.Rows.len_mul z n
 by_cases h0:n < 0
 ·rw [if_pos (by simpa using h0)] at h
  have:n.toNat=0:=by omega
  rw [this]; omega
 ·rw [if_neg (by simpa using h0)] at h
  have e:((n.toNat:Nat):Int)=n:=by omega
  have h2:((Txt.mul z n).length:Int)=((z.length*n.toNat:Nat):Int):=by rw [h,Int.natCast_mul,e]
  exact Int.ofNat.inj h2
abbrev tk:Str:="k"
theorem Ga:tk.length=1:=by decide +kernel
theorem N4 {n:Int} (h0:0<=n) (h1:n<=8) (h:PH):Jr (.str tk) (.int n) h=.ok (.str (Txt.mul tk n)) h:=by
 simp only [Jr];rw [if_pos ⟨by rw [Ga]; omega,by omega,by omega⟩]
def hnd (a b:Str) (i:Int):Str:=a++⟨#[97+i.toNat]⟩++b
theorem Qn {a b:Str} {i j:Int} (hi:0<=i) (hj:0<=j) (h:hnd a b i=hnd a b j):i=j:=by
 have e:=congrArg (fun z:Str=>z.cps.toList) h;simp only [hnd,app_list] at e;have e1:=List.append_cancel_left (List.append_cancel_right e);have e2:[97+i.toNat]=[97+j.toNat]:=e1;have e3:=List.cons.inj e2;omega
theorem N5 {c s:Int} (hs:1<=s/\s<=8) {i j:Nat} (hi:i < j) (hj:j < 6) (h:(c+i*s) % 26=(c+j*s) % 26):False:=by
 obtain ⟨d,rfl⟩:∃ d,j=i+d:=⟨j - i,by omega⟩;have e:((i+d:Nat):Int)*s=i*s+d*s:=by rw [Int.natCast_add,Int.add_mul]
 rw [e] at h;generalize (i:Int)*s=a at h;have e2:((d:Int)*s) % 26=0:=by omega
 have cd:d=1\/d=2\/d=3\/d=4\/d=5:=by omega
 rcases cd with rfl | rfl | rfl | rfl | rfl <;> simp at e2 <;> omega
def zO (A B:Str) (c s:Int) (q:Nat):List Str:=(ba q).map fun (i:Nat)=>hnd A B ((c+(i:Int)*s) % 26)
theorem JO (A B:Str) (c s:Int) (q:Nat):zO A B c s (q+1)=zO A B c s q++[hnd A B ((c+(q:Int)*s) % 26)]:=by simp [zO,List.range_succ]
theorem Qo (A B:Str) (c s:Int) (hs:1<=s/\s<=8) {n:Nat} (hn:n<=6):(zO A B c s n).Nodup:=by
 unfold zO;refine df.mpr ?_;refine List.Pairwise.imp_of_mem (fun {i j} hi hj ne e=>?_) (List.nodup_range (n:=n));have h1:=ia.mp hi;have h2:=ia.mp hj;have e:=Qn (i7 _ (by decide)) (i7 _ (by decide)) e;rcases Nat.lt_or_gt_of_ne ne with z | z
 ·exact N5 hs z (by omega) e
 ·exact N5 hs z (by omega) e.symm
theorem N6 (c:Int) (h:PH) (Q:PV->PH->Prop) (k:∀ (hs:List Str) (l:Nat) h',Ext h h'->h.length<=l->1<=hs.length/\hs.length<=6->hs.Nodup->h'[l]?=some (.lst (hs.map PV.str))->Q (.ref l) h'):(vB [.int c] h).W Q:=by
 refine eK ?_;unfold BW;rw [aL]; simp (disch:=omega);refine now ?_;rw [aL]; simp (disch:=omega);refine now ?_;rw [aL]; simp;have x0:Ext h (h++[MO.lst []]):=Ext.app _ _;have g0:(h++[MO.lst []])[h.length]?=some (.lst (([]:List Str).map PV.str)):=aK;generalize h++[MO.lst []]=hA at x0 g0;have ha:0<=c / 8 % (1+c % 8)/\c / 8 % (1+c % 8) < 1+c % 8:=⟨i7 _ (by omega),ji _ (by omega)⟩;generalize c / 8 % (1+c % 8)=a at ha;have hb:0<=1+c % 8 - 1 - a/\1+c % 8 - 1 - a<=8/\a<=8:=by omega
 generalize eA:Txt.mul tk a=A;generalize eB:Txt.mul tk (1+c % 8 - 1 - a)=B;have lA:A.length<=8:=by rw [<- eA,IE,Ga]; omega
 have lB:B.length<=8:=by rw [<- eB,IE,Ga]; omega
 refine now ?_;rw [aL];refine LX (j:=1+c / 5 % 6) (fun q δ h'=>Ext h h'/\h'[h.length]?=some (.lst ((zO A B (c / 64) (1+c / 3 % 8) q).map PV.str))/\∃ x4 x5,δ=[some (.int c),some (.int (1+c % 8)),some (.int a),some (.ref h.length),x4,x5]) (by simp (disch:=omega)) (by omega) ⟨x0,g0,_,_,rfl⟩ ?_ ?_
 ·rintro q δ h' hq ⟨x1,g1,x4,x5,rfl⟩;unfold AG;rw [aL];have hi:0<=(c / 64+(q:Int)*(1+c / 3 % 8)) % 26/\(c / 64+(q:Int)*(1+c / 3 % 8)) % 26 < 26:=⟨i7 _ (by decide),ji _ (by decide)⟩;have al:=Q9 hi.1 hi.2;have vi:vIx (.str MI) (.int ((c / 64+(q:Int)*(1+c / 3 % 8)) % 26)) h'=.ok (.str ⟨#[97+((c / 64+(q:Int)*(1+c / 3 % 8)) % 26).toNat]⟩) h':=by rw [PC (by rw [JJ]; omega),al]; rfl
  have es:=JO A B (c / 64) (1+c / 3 % 8) q;have lq:(zO A B (c / 64) (1+c / 3 % 8) q).length=q:=by simp [zO]
  simp (disch:=omega) [vi];refine now ?_;have r1:=N4 (n:=a) ha.1 hb.2.2 h';have r2:=N4 (n:=1+c % 8 - 1 - a) hb.1 hb.2.1 h';rw [eA] at r1;rw [eB] at r2;have p1:∀ x:Nat,bK (.str A) (.str ⟨#[x]⟩) h'=.ok (.str (A++⟨#[x]⟩)) h':=fun x=>An (by show A.length+1<=_; omega);have p2:∀ x:Nat,bK (.str (A++⟨#[x]⟩)) (.str B) h'=.ok (.str (A++⟨#[x]⟩++B)) h':=fun x=>An (by rw [ML]; omega);have ap:=gM (p:=PV.str (hnd A B ((c / 64+(q:Int)*(1+c / 3 % 8)) % 26))) g1 (by rw [ae,lq]; omega);unfold hnd at ap es;have il:=fA g1;generalize (c / 64+(q:Int)*(1+c / 3 % 8)) % 26=j at ap al hi es vi;simp [il,r1,r2,p1,p2,ap];refine ⟨x1.setN (ai _),?_⟩;rw [dR g1,es,cz];rfl
 ·rintro δ h' ⟨x1,g1,x4,x5,rfl⟩;refine now ?_;have hm:1<=(1+c / 5 % 6).toNat/\(1+c / 5 % 6).toNat<=6:=by omega
  generalize (1+c / 5 % 6).toNat=m at g1 hm;have lq:(zO A B (c / 64) (1+c / 3 % 8) m).length=m:=by simp [zO]
  have nd:=Qo A B (c / 64) (1+c / 3 % 8) (by omega) hm.2;simp;exact k _ _ _ x1 (ai _) (by rw [lq]; exact hm) nd g1
theorem Qp {p q:Dd} (h:bM (nmL p) (nmL q)=false) (e:p.nm.1=q.nm.1) (n:p.nm≠q.nm):q.nm.2 < p.nm.2:=by
 unfold nmL at h;have n2:p.nm.2≠q.nm.2:=fun z=>n (Prod.ext e z);have h1:bM [.inr p.nm.1,.inl p.nm.2] [.inr q.nm.1,.inl q.nm.2]=decide (p.nm.2 < q.nm.2):=by
  unfold bM;rw [if_pos (by rw [e])];unfold bM;rw [if_neg (fun z=>n2 (Sum.inl.inj z))];rfl
 rw [h1] at h;have:=of_decide_eq_false h;omega
theorem qT {L:List Dd} {w:Str} {x:HD}:x∈ofH w (L.map tri) ↔ ∃ d∈L,d.nm.1=w/\hdD d=x:=by
 unfold ofH;rw [aq];constructor
 ·rintro ⟨y,hy,rfl⟩;obtain ⟨h1,h2⟩:=av.mp hy;obtain ⟨d,hd,rfl⟩:=aq.mp h1;exact ⟨d,hd,of_decide_eq_true h2,rfl⟩
 ·rintro ⟨d,hd,e,rfl⟩;exact ⟨tri d,av.mpr ⟨aq.mpr ⟨d,hd,rfl⟩,decide_eq_true e⟩,rfl⟩
theorem xX {w:Str}:∀ {L:List Dd},(L.map (·.nm)).Nodup->qR L->E2 (ofH w (L.map tri))
 | [],_,_=>.nil
 | d :: L,nd,hf=>by
  replace hf:=de.mp hf
  rw [ay,fu] at nd;have ih:=xX (w:=w) nd.2 hf.2;unfold ofH;rw [ay,f9];split
  ·rename_i z;rw [ay];refine de.mpr ⟨fun x hx=>?_,ih⟩;obtain ⟨e,he,e1,rfl⟩:=qT.mp hx;have e2:d.nm.1=w:=of_decide_eq_true z;exact Qp (hf.1 e he) (e2.trans e1.symm) fun zz=>nd.1 (aq.mpr ⟨e,he,zz.symm⟩)
  ·exact ih
theorem Ua {F G:List HD} (hF:E2 F) (hG:E2 G) (h:∀ x,x∈F ↔ x∈G):F=G:=by
 have nF:F.Nodup:=hF.imp fun h e=>by rw [e] at h; omega
 have nG:G.Nodup:=hG.imp fun h e=>by rw [e] at h; omega
 refine ip (le:=fun a b:HD=>b.1 < a.1) (fun a b _ _ h1 h2=>absurd h1 (by omega)) hF hG ((gg nF nG).mpr h)
theorem xY {F:List HD} (hf:E2 F) {c:Int} {k:Kd} (h:(c,k)∈F):∃ P Q,F=P++(c,k) :: Q/\E2 Q/\∀ x,x∈Q ↔ x∈F/\x.1 < c:=by
 obtain ⟨P,Q,rfl⟩:=List.append_of_mem h;have h1:=lj.mp hf;have h2:=de.mp h1.2.1;refine ⟨P,Q,rfl,h2.2,fun x=>⟨fun hx=>⟨ak _ (ao _ hx),h2.1 x hx⟩,fun ⟨hx,hl⟩=>?_⟩⟩;rcases bj.mp hx with hx | hx
 ·have:=h1.2.2 x hx (c,k) aj;simp only at this;omega
 ·rcases bc.mp hx with rfl | hx
  ·simp only at hl; omega
  ·exact hx
theorem Qq {F G:List HD} (hF:E2 F) (hG:E2 G) {c n:Int} (h1:(c,.settle)∈F) (h2:(c,.settle)∈G) (hm:∀ x:HD,x.1 < c->(x∈F ↔ x∈G)) (hn:n<=c):tkH F [] n ↔ tkH G [] n:=by
 obtain ⟨P,Q,rfl,fQ,mQ⟩:=xY hF h1;obtain ⟨P',Q',rfl,fQ',mQ'⟩:=xY hG h2;have e:Q=Q':=Ua fQ fQ' fun x=>by
  rw [mQ,mQ'];constructor
  ·rintro ⟨a,b⟩; exact ⟨(hm x b).mp a,b⟩
  ·rintro ⟨a,b⟩; exact ⟨(hm x b).mpr a,b⟩
 subst e;rw [AO hF hn,AO hG hn]
def mxs (n:Nat) (c f:List Int):List Int:=(ba n).map fun k=>if f.getD k 0 > c.getD k 0 then f.getD k 0 else c.getD k 0
theorem iZ (n:Nat) (c f:List Int) (w:Nat):(mxs n c f).getD w 0=if w < n then (if f.getD w 0 > c.getD w 0 then f.getD w 0 else c.getD w 0) else 0:=by
 unfold mxs
 by_cases h:w < n
 ·rw [if_pos h];simp [h]
 ·rw [if_neg h];simp [h]
def Lv (n:Nat) (a b:List Int):Prop:=∀ v,v < n->a.getD v 0<=b.getD v 0
structure VOk (hs:List Str) (R:List Row) (T c:List Int):Prop where
 len:c.length=hs.length
 nn:∀ v,0<=c.getD v 0
 le:Lv hs.length c T
 cl:∀ z∈R,∀ w,w < hs.length->z.d.nm.1=hs.getD w "" -> z.d.nm.2<=c.getD w 0->Lv hs.length z.c c
structure RIs (hs:List Str) (R:List Row) (T:List Int) (z:Row):Prop where
 pre:∃ w c0,w < hs.length/\VOk hs R T c0/\z.c=c0.set w (c0.getD w 0+1)/\z.d.nm=(hs.getD w "",c0.getD w 0+1)/\cY hs c0 z.d.sn
 vok:VOk hs R T z.c
structure HS (hs:List Str) (R:List Row) (T:List Int):Prop where
 rw:∀ z∈R,RIs hs R T z
 inc:Inc R
 len:T.length=hs.length
theorem N7 {hs:List Str} (nd:hs.Nodup) {v w:Nat} (hv:v < hs.length) (hw:w < hs.length) (e:hs.getD v "" = hs.getD w ""):v=w:=by
 have e1:hs.getD v "" = hs[v]:=by simp [hv]
 have e2:hs.getD w "" = hs[w]:=by simp [hw]
 rw [e1,e2] at e;exact (List.getElem_inj nd).mp e
theorem RIs.ok {hs:List Str} {R:List Row} {T:List Int} {z:Row} (i:RIs hs R T z):eE hs z:=by
 obtain ⟨w,c0,hw,v0,ec,en,so⟩:=i.pre;exact ⟨i.vok.len,w,c0,hw,v0.len,v0.nn w,ec,en,so⟩
theorem RIs.hand {hs:List Str} {R:List Row} {T:List Int} {z:Row} (i:RIs hs R T z):z.d.nm.1∈hs:=by
 obtain ⟨w,c0,hw,v0,ec,en,so⟩:=i.pre;rw [en]
 show hs.getD w "" ∈ hs
 have:hs.getD w "" = hs[w]:=by simp [hw]
 rw [this];exact fm hw
theorem RIs.c0 {hs:List Str} {R:List Row} {T:List Int} {z:Row} {w:Nat} {c0:List Int} (hw:w < hs.length) (v0:VOk hs R T c0) (ec:z.c=c0.set w (c0.getD w 0+1)) (v:Nat):z.c.getD v 0=if w=v then c0.getD w 0+1 else c0.getD v 0:=by
 rw [ec,fJ _ _ _ _ _ (by rw [v0.len]; exact hw)]
theorem HS.lt {hs:List Str} (nd:hs.Nodup) {R:List Row} {T:List Int} (i:HS hs R T) {y z:Row} (hy:y∈R) (hz:z∈R) (e:y.d.nm.1=z.d.nm.1) (l:y.d.nm.2 < z.d.nm.2):(∃ c0,VOk hs R T c0/\cY hs c0 z.d.sn/\Lv hs.length y.c c0)/\iL y.d < iL z.d:=by
 obtain ⟨w,c0,hw,v0,ec,en,so⟩:=(i.rw z hz).pre;obtain ⟨u,b0,hu,u0,fc,fn,su⟩:=(i.rw y hy).pre;have l1:y.d.nm.2<=c0.getD w 0:=by
  have:z.d.nm.2=c0.getD w 0+1:=by rw [en]
  omega
 have lv:=v0.cl y hy w hw (by rw [e,en]) l1;refine ⟨⟨c0,v0,so,lv⟩,?_⟩;have t1:tot y.d.sn=tv hs.length b0:=su.tot nd u0.nn;have t2:tot z.d.sn=tv hs.length c0:=so.tot nd v0.nn;have t3:tv hs.length b0 < tv hs.length y.c:=Sg (w:=u) _ hu (fun k hk=>by rw [RIs.c0 hu u0 fc k]; split <;> rename_i z <;> first | (subst z; omega) | omega) (by rw [RIs.c0 hu u0 fc u,if_pos rfl]; omega)
 have t4:=IC hs.length lv
 show 1+tot y.d.sn < 1+tot z.d.sn
 omega
theorem HS.pos {hs:List Str} (nd:hs.Nodup) {R:List Row} {T:List Int} (i:HS hs R T) {y:Row} (hy:y∈R):1<=iL y.d/\1<=y.d.nm.2:=by
 obtain ⟨u,b0,hu,u0,fc,fn,su⟩:=(i.rw y hy).pre;have t1:tot y.d.sn=tv hs.length b0:=su.tot nd u0.nn;have t2:tv hs.length []<=tv hs.length b0:=IC _ fun k _=>by have:=u0.nn k; simpa using this
 have t3:tv hs.length []=0:=by
  have:∀ n,tv n []=0:=fun n=>by
   induction n with
   | zero=>rfl
   | succ n ih=>rw [qS,ih]; simp
  exact this _
 have:=u0.nn u;refine ⟨?_,by rw [fn]; show 1<=b0.getD u 0+1; omega⟩
 show 1<=1+tot y.d.sn
 omega
theorem VOk.up {hs:List Str} (nd:hs.Nodup) {R:List Row} {T c c':List Int} (lT:T.length=hs.length) {w:Nat} (hw:w < hs.length) (ow:c.getD w 0=T.getD w 0) (v:VOk hs R T c') {z:Row} (en:z.d.nm=(hs.getD w "",c.getD w 0+1)):VOk hs (R++[z]) (T.set w (c.getD w 0+1)) c':=by
 have g:∀ u,(T.set w (c.getD w 0+1)).getD u 0=if w=u then c.getD w 0+1 else T.getD u 0:=fun u=>fJ _ _ _ _ _ (by rw [lT]; exact hw);refine ⟨v.len,v.nn,fun u hu=>?_,fun y hy u hu e l=>?_⟩
 ·rw [g u];have:=v.le u hu;split
  ·rename_i q; subst q; omega
  ·exact this
 ·rcases bj.mp hy with q | q
  ·exact v.cl y q u hu e l
  ·simp at q;subst q;rw [en] at e l;have:w=u:=N7 nd hw hu e;subst this;have l:c.getD w 0+1<=c'.getD w 0:=l;have:=v.le w hw;omega
theorem HS.more {hs:List Str} (nd:hs.Nodup) {R:List Row} {T c:List Int} (i:HS hs R T) {w:Nat} (hw:w < hs.length) (v:VOk hs R T c) (ow:c.getD w 0=T.getD w 0) {S:Seen} (so:cY hs c S) (a:Ac) (r:Nat):HS hs (R++[⟨⟨(hs.getD w "",c.getD w 0+1),S,a⟩,c.set w (c.getD w 0+1),r⟩]) (T.set w (c.getD w 0+1))/\VOk hs (R++[⟨⟨(hs.getD w "",c.getD w 0+1),S,a⟩,c.set w (c.getD w 0+1),r⟩]) (T.set w (c.getD w 0+1)) (c.set w (c.getD w 0+1)):=by
 obtain ⟨z,ez⟩:∃ z:Row,z=⟨⟨(hs.getD w "",c.getD w 0+1),S,a⟩,c.set w (c.getD w 0+1),r⟩:=⟨_,rfl⟩;rw [<- ez];have en:z.d.nm=(hs.getD w "",c.getD w 0+1):=by rw [ez]
 have ec:z.c=c.set w (c.getD w 0+1):=by rw [ez]
 have es:z.d.sn=S:=by rw [ez]
 clear ez;have up:∀ c',VOk hs R T c'->VOk hs (R++[z]) (T.set w (c.getD w 0+1)) c':=fun c' v'=>VOk.up nd i.len hw ow v' en;have num:∀ y∈R,y.d.nm.1=hs.getD w "" -> y.d.nm.2<=c.getD w 0:=fun y hy e=>by
  obtain ⟨u,b0,hu,u0,fc,fn,su⟩:=(i.rw y hy).pre;rw [fn] at e ⊢;have e:u=w:=N7 nd hu hw e;subst e;have:=(i.rw y hy).vok.le u hu;rw [RIs.c0 hu u0 fc u,if_pos rfl] at this;rw [ow];exact this
 have g:∀ u,(T.set w (c.getD w 0+1)).getD u 0=if w=u then c.getD w 0+1 else T.getD u 0:=fun u=>fJ _ _ _ _ _ (by rw [i.len]; exact hw);have gc:∀ u,(c.set w (c.getD w 0+1)).getD u 0=if w=u then c.getD w 0+1 else c.getD u 0:=fun u=>fJ _ _ _ _ _ (by rw [v.len]; exact hw);have lc:Lv hs.length c (c.set w (c.getD w 0+1)):=fun u hu=>by
  rw [gc u];split
  ·rename_i q; subst q; omega
  ·exact i8 _
 have vn:VOk hs (R++[z]) (T.set w (c.getD w 0+1)) (c.set w (c.getD w 0+1)):=by
  refine ⟨by rw [ig]; exact v.len,fun u=>?_,fun u hu=>?_,fun y hy u hu e l=>?_⟩
  ·rw [gc u];have:=v.nn u;have:=v.nn w;split <;> omega
  ·rw [gc u,g u];have:=v.le u hu;split
   ·exact i8 _
   ·exact this
  ·rcases bj.mp hy with q | q
   ·have:y.d.nm.2<=c.getD u 0:=by
     by_cases z:w=u
     ·subst z; exact num y q e
     ·rw [gc u,if_neg z] at l; exact l
    exact fun x hx=>Int.le_trans (v.cl y q u hu e this x hx) (lc x hx)
   ·simp at q;subst q;rw [ec];exact fun x hx=>i8 _
 refine ⟨⟨fun y hy=>?_,?_,by rw [ig]; exact i.len⟩,vn⟩
 ·rcases bj.mp hy with q | q
  ·obtain ⟨u,b0,hu,u0,rest⟩:=(i.rw y q).pre;exact ⟨⟨u,b0,hu,up _ u0,rest⟩,up _ (i.rw y q).vok⟩
  ·simp at q;subst q;exact ⟨⟨w,c,hw,up _ v,ec,en,by rw [es]; exact so⟩,by rw [ec]; exact vn⟩
 ·unfold Inc;rw [lj];refine ⟨i.inc,by simp,fun y hy x hx e=>?_⟩;simp at hx;subst hx;rw [en] at e ⊢;have:=num y hy e
  show _ < c.getD w 0+1
  omega
theorem VOk.max {hs:List Str} {R:List Row} {T c f:List Int} (v:VOk hs R T c) (u:VOk hs R T f):VOk hs R T (mxs hs.length c f):=by
 refine ⟨by unfold mxs; simp,fun k=>?_,fun k hk=>?_,fun y hy w hw e l=>?_⟩
 ·rw [iZ];have:=v.nn k;have:=u.nn k;split
  ·split <;> assumption
  ·exact i8 _
 ·rw [iZ,if_pos hk];have:=v.le k hk;have:=u.le k hk;split <;> assumption
 ·rw [iZ,if_pos hw] at l;intro k hk;rw [iZ,if_pos hk];split at l
  ·have:=u.cl y hy w hw e l k hk;split <;> omega
  ·have:=v.cl y hy w hw e l k hk;split <;> omega
structure DQ (R Q:List Row):Prop where
 sub:∀ z∈Q,z∈R
 inc:Inc Q
 dn:∀ z∈Q,∀ y∈R,y.d.nm.1=z.d.nm.1->y.d.nm.2<=z.d.nm.2->y∈Q
theorem Ub {hs:List Str} (D:List De) {x:Str} (hx:x∈hs):bnd hs D<=stV (maxD ((D.filter fun d=>acB d.ac).filter fun d=>decide (d.nm.1=x))):=by
 unfold bnd;exact (qF (by intro z; rw [List.map_eq_nil_iff] at z; rw [z] at hx; simp at hx)).2 _ (aq.mpr ⟨x,hx,rfl⟩)
theorem IF {Q:List Row} {D:List De} (mem:∀ d,d∈D ↔ d∈Q.map (·.d)) {x:Str} {d:De} (e:maxD ((D.filter fun d=>acB d.ac).filter fun d=>decide (d.nm.1=x))=some d):(∃ s∈Q,s.d=d/\s.d.nm.1=x/\acB s.d.ac=true)/\∀ s∈Q,s.d.nm.1=x->acB s.d.ac=true->s.d.nm.2<=d.nm.2:=by
 obtain ⟨h1,h2⟩:=sS e;obtain ⟨h3,h4⟩:=av.mp h1;obtain ⟨h5,h6⟩:=av.mp h3;obtain ⟨s,hs,es⟩:=aq.mp ((mem d).mp h5);refine ⟨⟨s,hs,es,by rw [es]; exact of_decide_eq_true h4,by rw [es]; exact h6⟩,fun s hs e1 e2=>?_⟩;exact h2 s.d (av.mpr ⟨av.mpr ⟨(mem _).mpr (aq.mpr ⟨s,hs,rfl⟩),e2⟩,decide_eq_true e1⟩)
theorem E8 {hs:List Str} {Q:List Row} {D:List De} (mem:∀ d,d∈D ↔ d∈Q.map (·.d)) {x:Str} (hx:x∈hs) (h:0 < bnd hs D):∃ s∈Q,s.d.nm.1=x/\acB s.d.ac=true/\bnd hs D<=iL s.d:=by
 have b:=Ub D hx;cases e:maxD ((D.filter fun d=>acB d.ac).filter fun d=>decide (d.nm.1=x)) with
 | none=>
  rw [e] at b;have b:bnd hs D<=0:=b;omega
 | some d=>
  rw [e] at b;obtain ⟨⟨s,hs,es,e1,e2⟩,_⟩:=IF mem e;exact ⟨s,hs,e1,e2,by rw [es]; exact b⟩
theorem Uc {hs:List Str} (nd:hs.Nodup) (h0:hs≠[]) {R Q:List Row} {T:List Int} (i:HS hs R T) (q:DQ R Q) {D:List De} (mem:∀ d,d∈D ↔ d∈Q.map (·.d)) {m:Int} (h:∀ x∈hs,∃ s∈Q,s.d.nm.1=x/\acB s.d.ac=true/\m<=iL s.d):m<=bnd hs D:=by
 obtain ⟨m1,_⟩:=qF (ns:=hs.map fun x=>stV (maxD ((D.filter fun d=>acB d.ac).filter fun d=>decide (d.nm.1=x)))) (by simpa using h0)
 obtain ⟨x,hx,ex⟩:=aq.mp m1;obtain ⟨s,hs',e1,e2,e3⟩:=h x hx
 show m<=kJ _
 rw [<- ex];cases e:maxD ((D.filter fun d=>acB d.ac).filter fun d=>decide (d.nm.1=x)) with
 | none=>
  have:=AM.mp e;have hm:s.d∈(D.filter fun d=>acB d.ac).filter fun d=>decide (d.nm.1=x):=av.mpr ⟨av.mpr ⟨(mem _).mpr (aq.mpr ⟨s,hs',rfl⟩),e2⟩,decide_eq_true e1⟩;rw [this] at hm;simp at hm
 | some d=>
  obtain ⟨⟨t,ht,et,f1,f2⟩,top⟩:=IF mem e
  show m<=iL d
  rw [<- et];have l:=top s hs' e1 e2;rw [<- et] at l;rcases Int.lt_or_eq_of_le l with l | l
  ·have:=(i.lt nd (q.sub s hs') (q.sub t ht) (e1.trans f1.symm) l).2;omega
  ·have:=Cf q.inc hs' ht (Prod.ext (e1.trans f1.symm) l);rw [<- this];exact e3
theorem IG {hs:List Str} (nd:hs.Nodup) {R Q:List Row} {T:List Int} (i:HS hs R T) (q:DQ R Q) {D:List De} (mem:∀ d,d∈D ↔ d∈Q.map (·.d)) {y:Row} (hy:y∈R) (l:iL y.d<=bnd hs D):∃ s∈Q,s.d.nm.1=y.d.nm.1/\acB s.d.ac=true/\y.d.nm.2<=s.d.nm.2:=by
 have p:=(i.pos nd hy).1;obtain ⟨s,hs',e1,e2,e3⟩:=E8 mem (i.rw y hy).hand (by omega);refine ⟨s,hs',e1,e2,?_⟩
 by_cases z:y.d.nm.2<=s.d.nm.2
 ·exact z
 ·have:=(i.lt nd (q.sub s hs') hy e1 (by omega)).2;omega
theorem N8 {hs:List Str} (nd:hs.Nodup) {R Q:List Row} {T:List Int} (i:HS hs R T) (q:DQ R Q) {D:List De} (mem:∀ d,d∈D ↔ d∈Q.map (·.d)) {y:Row} (hy:y∈R) (l:iL y.d<=bnd hs D):y∈Q:=by
 obtain ⟨s,hs',e1,e2,e3⟩:=IG nd i q mem hy l;exact q.dn s hs' y hy e1.symm e3
theorem JP {d:De} (h:acB d.ac=true):(dD d).kd=.settle:=by
 show kdOf d.ac=.settle
 cases e:d.ac <;> rw [e] at h <;> first | rfl | cases h
theorem IH {hs:List Str} (nd:hs.Nodup) {R Q Q':List Row} {T:List Int} (i:HS hs R T) (q:DQ R Q) (q':DQ R Q') (sub:∀ z∈Q,z∈Q') {D:List De} (mem:∀ d,d∈D ↔ d∈Q.map (·.d)) {F G:List Dd} (nF:(F.map (·.nm)).Nodup) (nG:(G.map (·.nm)).Nodup) (fF:qR F) (fG:qR G) (mF:∀ d,d∈F ↔ ∃ z∈Q,dD z.d=d) (mG:∀ d,d∈G ↔ ∃ z∈Q',dD z.d=d) {y:Row} (hy:y∈R) (l:iL y.d<=bnd hs D):TkL F y.d.nm ↔ TkL G y.d.nm:=by
 obtain ⟨s,hs',e1,e2,e3⟩:=IG nd i q mem hy l;have k1:TkL F y.d.nm ↔ tkH (ofH y.d.nm.1 (F.map tri)) [] y.d.nm.2:=MV (L:=F.map tri) (h:=y.d.nm.1) (n:=y.d.nm.2);have k2:TkL G y.d.nm ↔ tkH (ofH y.d.nm.1 (G.map tri)) [] y.d.nm.2:=MV (L:=G.map tri) (h:=y.d.nm.1) (n:=y.d.nm.2);rw [k1,k2];have hd:hdD (dD s.d)=(s.d.nm.2,.settle):=by
  show (s.d.nm.2,(dD s.d).kd)=_
  rw [JP e2]
 refine Qq (xX nF fF) (xX nG fG) (c:=s.d.nm.2) (qT.mpr ⟨dD s.d,(mF _).mpr ⟨s,hs',rfl⟩,e1,hd⟩) (qT.mpr ⟨dD s.d,(mG _).mpr ⟨s,sub s hs',rfl⟩,e1,hd⟩) (fun x hx=>?_) e3;rw [qT,qT];constructor
 ·rintro ⟨d,hd,f1,f2⟩;obtain ⟨z,hz,rfl⟩:=(mF d).mp hd;exact ⟨_,(mG _).mpr ⟨z,sub z hz,rfl⟩,f1,f2⟩
 ·rintro ⟨d,hd,f1,f2⟩;obtain ⟨z,hz,rfl⟩:=(mG d).mp hd;have hn:z.d.nm.2 < s.d.nm.2:=by
   have:z.d.nm.2=x.1:=by rw [<- f2]; rfl
   omega
  have f1:z.d.nm.1=y.d.nm.1:=f1;exact ⟨_,(mF _).mpr ⟨z,q.dn s hs' z (q'.sub z hz) (f1.trans e1.symm) (by omega),rfl⟩,f1,f2⟩
theorem mS (M:Int) (d:De):dW M (dD d)=decide (iL d<=M):=rfl
theorem Gb {hs:List Str} (nd:hs.Nodup) {R Q Q':List Row} {T:List Int} (i:HS hs R T) (q:DQ R Q) (q':DQ R Q') (sub:∀ z∈Q,z∈Q') {D:List De} (mem:∀ d,d∈D ↔ d∈Q.map (·.d)) {o1 o2:List Dd} (f1:InF Q o1) (f2:InF Q' o2):o1.filter (dW (bnd hs D))=o2.filter (dW (bnd hs D)):=by
 obtain ⟨F,nF,fF,mF,out1⟩:=f1.ex;obtain ⟨G,nG,fG,mG,out2⟩:=f2.ex;refine xV ((fq.map _).nodup f1.nd) ((fq.map _).nodup f2.nd) (f1.br.sublist fq) (f2.br.sublist fq) fun d=>?_;rw [av,av];constructor
 ·rintro ⟨h1,h2⟩;obtain ⟨⟨z,hz,rfl⟩,nt⟩:=(out1 d).mp h1;rw [mS,decide_eq_true_iff] at h2;refine ⟨(out2 _).mpr ⟨⟨z,sub z hz,rfl⟩,fun t=>nt ?_⟩,by rw [mS,decide_eq_true_iff]; exact h2⟩;exact (IH nd i q q' sub mem nF nG fF fG mF mG (q.sub z hz) h2).mpr t
 ·rintro ⟨h1,h2⟩;obtain ⟨⟨z,hz,rfl⟩,nt⟩:=(out2 d).mp h1;rw [mS,decide_eq_true_iff] at h2;have hzR:=q'.sub z hz;refine ⟨(out1 _).mpr ⟨⟨z,N8 nd i q mem hzR h2,rfl⟩,fun t=>nt ?_⟩,by rw [mS,decide_eq_true_iff]; exact h2⟩;exact (IH nd i q q' sub mem nF nG fF fG mF mG hzR h2).mp t
theorem N9 {hs:List Str} (nd:hs.Nodup) (h0:hs≠[]) {R Q Q':List Row} {T:List Int} (i:HS hs R T) (q':DQ R Q') (sub:∀ z∈Q,z∈Q') {D D':List De} (mem:∀ d,d∈D ↔ d∈Q.map (·.d)) (mem':∀ d,d∈D' ↔ d∈Q'.map (·.d)) (p:0 < bnd hs D):bnd hs D<=bnd hs D':=
 Uc nd h0 i q' mem' fun x hx=>by
  obtain ⟨s,hs',r⟩:=E8 mem hx p;exact ⟨s,sub s hs',r⟩
theorem E9 {hs:List Str} {Q:List Row} {M:Int} {os:List Dd} (o:nJ Q os) {p:Str×Int} (h:p∈lO hs Q M os):(∃ z∈Q,z.d.nm=p/\iL z.d<=M)/\∀ x∈hs,∃ z∈Q,z.d.nm.1=x/\p.2<=z.c.getD (hs.idxOf p.1) 0:=by
 obtain ⟨h1,h2⟩:=av.mp h;obtain ⟨d,hd,rfl⟩:=aq.mp h1;obtain ⟨h3,h4⟩:=av.mp hd;obtain ⟨z,hz,rfl⟩:=(o.me d).mp h3;rw [mS,decide_eq_true_iff] at h4;refine ⟨⟨z,hz,rfl,h4⟩,fun x hx=>?_⟩;have:=cw.mp h2 x hx;unfold sT at this;cases e:IB Q x with
 | none=>rw [e] at this; cases this
 | some y=>
  rw [e] at this;obtain ⟨a,b⟩:=av.mp (List.mem_of_getLast? e);exact ⟨y,a,of_decide_eq_true b,of_decide_eq_true this⟩
abbrev Cnt:=List (List Int×Nat)
def bU (C:Cnt) (w:Nat):List Int:=(C.getD w ([],0)).1
def Gc (C:Cnt) (w:Nat):Nat:=(C.getD w ([],0)).2
theorem pick {α:Type} {xs:List α} {e:α->PV} {n:Nat} (hn:xs.length=n) (h0:0 < n) (i:Int):∃ x∈xs,atI (xs.map e) (i % (n:Int))=some (e x):=by
 obtain ⟨one,e1,hmem⟩:=PJ (xs:=xs.map e) (i:=i) (by intro z; rw [List.map_eq_nil_iff] at z; rw [z] at hn; simp at hn; omega);obtain ⟨p,hp,rfl⟩:=aq.mp hmem;rw [ae,hn] at e1;exact ⟨p,hp,e1⟩
theorem Wv (c:Int) {n:Nat} (h:0 < n):∃ w:Nat,c % (n:Int)=w/\w < n:=by
 have h1:=i7 c (b:=(n:Int)) (by omega);have h2:=ji c (b:=(n:Int)) (by omega);exact ⟨(c % (n:Int)).toNat,by omega,by omega⟩
theorem Cg (x:Str):∀ R:List Row,R.filterMap (fun z=>if z.d.nm.1=x then some (rwV z) else none)=(R.filter fun z=>decide (z.d.nm.1=x)).map rwV
 | []=>rfl
 | y :: rs=>by
  rw [dj,f9]
  by_cases e:y.d.nm.1=x
  ·simp [e,Cg x rs]
  ·simp [e,Cg x rs]
theorem Ci (z:Row) (h:PH):vIx (rwV z) (.int 0) h=.ok (deV z.d) h:=by unfold rwV; simp
theorem XZ (z:Row) (h:PH):vIx (rwV z) (.int 1) h=.ok (.ref z.r) h:=by unfold rwV; simp
theorem jW {h:PH} {l:Nat} {c:List Int} (g:h[l]?=some (.lst (c.map PV.int))) {k:Nat} (hk:k < c.length):vIx (.ref l) (.int (k:Int)) h=.ok (.int (c.getD k 0)) h:=by
 rw [hW g,show atI (c.map PV.int) (k:Int)=some (.int (c.getD k 0)) from nX (by rw [au]; simp [hk])]
 rfl
theorem Bu {h:PH} {l:Nat} {hs:List Str} (g:h[l]?=some (.lst (hs.map PV.str))) {k:Nat} (hk:k < hs.length):vIx (.ref l) (.int (k:Int)) h=.ok (.str (hs.getD k "")) h:=by
 rw [hW g,show atI (hs.map PV.str) (k:Int)=some (.str (hs.getD k "")) from nX (by rw [au]; simp [hk])]
 rfl
theorem Cj {h:PH} {l:Nat} {C:Cnt} (g:h[l]?=some (.lst (C.map fun p=>PV.ref p.2))) {k:Nat} (hk:k < C.length):vIx (.ref l) (.int (k:Int)) h=.ok (.ref (Gc C k)) h:=by
 rw [hW g,show atI (C.map fun p=>PV.ref p.2) (k:Int)=some (.ref (Gc C k)) from nX (by rw [au]; unfold Gc; simp [hk])]
 rfl
theorem Ud {hs:List Str} (nd:hs.Nodup) (h6:hs.length<=6) {R:List Row} (lR:R.length<=1000) {C:List Int} (lC:C.length=hs.length) {lr lh lc w:Nat} (hw:w < hs.length) (c way:Int) {h:PH} (gh:h[lh]?=some (.lst (hs.map PV.str))) (gc:h[lc]?=some (.lst (C.map PV.int))) (gr:h[lr]?=some (.lst (R.map rwV))) (ne:lc≠lr) (x1 x7 x8 x9 x10 x11:Option PV) (E:FE)
  (fin:∀ S a h2 y7 y8,cY hs C S->(∀ n o,n≠lr->n≠lc->h[n]?=some o->h2[n]?=some o)->h2[lc]?=some (.lst ((C.set w (C.getD w 0+1)).map PV.int))->h2[lr]?=some (.lst ((R++[(⟨⟨(hs.getD w "",C.getD w 0+1),S,a⟩,C.set w (C.getD w 0+1),lc⟩:Row)]).map rwV))->E.nx [some (.ref lr),x1,some (.ref lh),some (.int c),some (.int (w:Int)),some (.ref lc),some (.int way),y7,y8,x9,x10,x11] h2):
  (aZ (bO 7 (jQ (aB (aD vAt (mV 2) (mV 4)) (aB (aD bK (aD vAt (mV 5) (mV 4)) (mC (.int 1))) aI))))
  (aZ (bO 8 (jQ (aB (mV 7) (aB (bE 2 xO (aB (mV 2) (aB (mV 5) aI))) (aB (bE 3 DU (aB (mV 6) (aB (aD vAt (mV 5) (mV 4)) (aB (aD oA (mV 3) (mC (.int 32))) aI)))) aI)))))
  (aZ (qE (aD bK (aD vAt (mV 5) (mV 4)) (mC (.int 1))) (mV 5) (mV 4))
  (Dr (mMt isL (onL dQ) (mV 0) (aB (jQ (aB (mV 8) (aB (mV 5) aI))) aI))))) [some (.ref lr),x1,some (.ref lh),some (.int c),some (.int (w:Int)),some (.ref lc),some (.int way),x7,x8,x9,x10,x11] h).W E:=by
 have vc0:=jW gc (k:=w) (by omega);have vh:=Bu gh hw;obtain ⟨hd,ehd⟩:∃ hd,hs.getD w "" = hd:=⟨_,rfl⟩;rw [ehd] at vh fin;obtain ⟨tp,etp⟩:∃ tp,C.getD w 0=tp:=⟨_,rfl⟩;rw [etp] at vc0 fin;rw [aL];simp [vh,vc0];refine now ?_;rw [aL];simp;refine Qa nd h6 lC gh gc _ fun S h1 x1' so=>?_;have gc1:=x1' _ _ gc;have vc1:=jW gc1 (k:=w) (by omega);rw [etp] at vc1;simp (disch:=omega) [vc1];refine U' way tp (c / 32) h1 _ fun a=>?_;have pu:=Jz (v:=.int (tp+1)) (i:=(w:Int)) gc1 (by omega) (by rw [ae]; omega);rw [jq,<- List.map_set] at pu;have g2:(h1.set lc (.lst ((C.set w (tp+1)).map PV.int)))[lr]?=some (.lst (R.map rwV)):=by rw [bf ne]; exact x1' _ _ gr
 have g3:(h1.set lc (.lst ((C.set w (tp+1)).map PV.int)))[lc]?=some (.lst ((C.set w (tp+1)).map PV.int)):=dR gc1;have kp:∀ n o,n≠lc->h[n]?=some o->(h1.set lc (.lst ((C.set w (tp+1)).map PV.int)))[n]?=some o:=fun n o q e=>by rw [bf (j5 q)]; exact x1' _ _ e
 generalize h1.set lc (.lst ((C.set w (tp+1)).map PV.int))=hB at pu g2 g3 kp;have il:=fA g2;have ap:=gM (p:=rwV ⟨⟨(hd,tp+1),S,a⟩,C.set w (tp+1),lc⟩) g2 (by rw [ae]; omega);have ap':onL dQ (.ref lr) [.tup [.tup [.tup [.str hd,.int (tp+1)],sv S,acV a],.ref lc]] hB=_:=ap;refine now ?_;rw [aL];simp [vc1,pu];refine now ?_;simp [il,ap'];refine fin S a _ _ _ so (fun n o q1 q2 e=>by rw [bf (j5 q1)]; exact kp n o q2 e) (by rw [bf (j5 ne)]; exact g3) (by rw [dR g2,cz]; rfl)
theorem Ue {hs:List Str} (h6:hs.length<=6) {C f:List Int} (lC:C.length=hs.length) (lf:f.length=hs.length) {lh lc rf:Nat} {h:PH} (gh:h[lh]?=some (.lst (hs.map PV.str))) (gc:h[lc]?=some (.lst (C.map PV.int))) (gf:h[rf]?=some (.lst (f.map PV.int))) (x0 x1 x3 x4 x6 x7 x8 x9 x11:Option PV) (E:FE)
  (fin:∀ n h2,Ext h h2->h.length<=n->h2[n]?=some (.lst ((mxs hs.length C f).map PV.int))->E.nx [x0,x1,some (.ref lh),x3,x4,some (.ref n),x6,x7,x8,x9,some (.ref rf),x11] h2):
  Lt (bO 5 (aY [none,some 5,some 10] (kX (aB (mCB gX (aB (mV 2) aI)) aI)) (gN 0) dJ (mCB qG (aB (aD vAt (mV 1) (mV 0)) (aB (aD vAt (mV 2) (mV 0)) aI))))) E [x0,x1,some (.ref lh),x3,x4,some (.ref lc),x6,x7,x8,x9,some (.ref rf),x11] h:=by
 refine now ?_;have hlv:=iV gh;rw [ae] at hlv;have hc:=Dx (js:=[none,some 5,some 10]) (tg:=gN 0) (tst:=dJ) (elt:=mCB qG (aB (aD vAt (mV 1) (mV 0)) (aB (aD vAt (mV 2) (mV 0)) aI))) (δ:=[x0,x1,some (.ref lh),x3,x4,some (.ref lc),x6,x7,x8,x9,some (.ref rf),x11]) (h:=h) (h1:=h) (ms:=aB (mCB gX (aB (mV 2) aI)) aI) (j:=(hs.length:Int))
  (fun k=>some (.int (if f.getD k 0 > C.getD k 0 then f.getD k 0 else C.getD k 0))) (by simp [hlv]) (by omega) (fun k hk=>⟨[some (.int (k:Int)),some (.ref lc),some (.ref rf)],by simp [bT],fun h2 x2=>by
   have hk':k < hs.length:=by omega
   have v1:=jW (x2 _ _ gc) (k:=k) (by omega);have v2:=jW (x2 _ _ gf) (k:=k) (by omega);generalize C.getD k 0=u1 at v1;generalize f.getD k 0=u2 at v2;refine ⟨rfl,?_⟩;simp [v1,v2]⟩)
 have em:(ba ((hs.length:Int)).toNat).filterMap (fun k=>some (PV.int (if f.getD k 0 > C.getD k 0 then f.getD k 0 else C.getD k 0)))=(mxs hs.length C f).map PV.int:=by
  rw [jq];unfold mxs;rw [cj,filterMap_some];rfl
 rw [em] at hc;simp [hc];exact fin _ _ (Ext.app _ _) (ai _) aK
theorem N' {C:Cnt} {mr lc w:Nat} (hw:w < C.length) (l6:C.length<=6) {h:PH} (gm:h[mr]?=some (.lst (C.map fun p=>PV.ref p.2))) (x0 x2 x3 x6 x7 x8 x9 x10 x11:Option PV) (Q:PV->PH->Prop)
  (k:∀ n h2,Ext h h2->h.length<=n->h2[n]?=some (.lst ((C.map fun p=>PV.ref p.2).set w (.ref lc)))->Q (.ref n) h2):
  (aD bK (aD bK (mSl (mV 1) BB (mP (mV 4))) (rZ (aB (mV 5) aI))) (mSl (mV 1) (mP (aD bK (mV 4) (mC (.int 1)))) BB) [x0,some (.ref mr),x2,x3,some (.int (w:Int)),some (.ref lc),x6,x7,x8,x9,x10,x11] h).W Q:=by
 obtain ⟨X,eX⟩:∃ X,(C.map fun p=>PV.ref p.2)=X:=⟨_,rfl⟩;have lX:X.length=C.length:=by rw [<- eX,ae]
 rw [eX] at gm k;have s1:=BJ (lo:=none) (hi:=some (w:Int)) gm;rw [MR (xs:=X) (n:=w) (by omega)] at s1;have a1:Ext h (h++[MO.lst (X.take w)]):=Ext.app _ _;have b1:(h++[MO.lst (X.take w)])[h.length]?=some (.lst (X.take w)):=aK;generalize h++[MO.lst (X.take w)]=hA at s1 a1 b1;have a2:Ext hA (hA++[MO.lst [PV.ref lc]]):=Ext.app _ _;have b2:(hA++[MO.lst [PV.ref lc]])[hA.length]?=some (.lst [PV.ref lc]):=aK;have p1:=Az (a2 _ _ b1) b2 (by rw [d9]; simp; omega);have a3:Ext (hA++[MO.lst [PV.ref lc]]) (hA++[MO.lst [PV.ref lc]]++[MO.lst (X.take w++[PV.ref lc])]):=Ext.app _ _;have b3:(hA++[MO.lst [PV.ref lc]]++[MO.lst (X.take w++[PV.ref lc])])[(hA++[MO.lst [PV.ref lc]]).length]?=some (.lst (X.take w++[PV.ref lc])):=aK;generalize hA++[MO.lst [PV.ref lc]]++[MO.lst (X.take w++[PV.ref lc])]=hC at p1 a3 b3;have s2:=BJ (lo:=some (((w+1:Nat):Int))) (hi:=none) (a3 _ _ (a2 _ _ (a1 _ _ gm)));rw [MS (xs:=X) (n:=w+1) (by omega)] at s2;have a4:Ext hC (hC++[MO.lst (X.drop (w+1))]):=Ext.app _ _;have b4:(hC++[MO.lst (X.drop (w+1))])[hC.length]?=some (.lst (X.drop (w+1))):=aK;generalize hC++[MO.lst (X.drop (w+1))]=hD at s2 a4 b4;have p2:=Az (a4 _ _ b3) b4 (by rw [d7,d9,List.length_drop]; simp; omega);have s2:vSl (.ref mr) (some ((w:Int)+1)) none hC=.ok (.ref hC.length) hD:=s2;have a14:Ext h hD:=a1.trans (a2.trans (a3.trans a4));have l14:=a14.len;have eS:X.take w++[PV.ref lc]++X.drop (w+1)=X.set w (.ref lc):=by
  rw [List.set_eq_take_append_cons_drop,if_pos (by omega),List.append_assoc];rfl
 rw [eS] at p2;generalize hC.length=lD at s2 p2 b4;generalize (hA++[MO.lst [PV.ref lc]]).length=lC at p1 b3 p2;generalize h.length=lA at s1 p1 b1 k l14;simp [s1,p1,s2,p2];exact k _ _ (a14.trans (Ext.app _ _)) l14 aK
theorem Y0 {h:PH} {a b:Nat} {R:List Row} (g1:h[a]?=some (.lst (R.map rwV))) (g2:h[b]?=some (.lst [])):Q4 (.ref a) (.ref b) h=.ok (.bl (!decide (R=[]))) h:=by
 unfold Q4 eqF;cases R with
 | nil=>rw [Du g1 g2 rfl rfl]; rfl
 | cons z R=>
  have q1:cX (.ref a) h=some ((z :: R).map rwV):=by simp [cX,aN,g1]
  have q2:cX (.ref b) h=some []:=by simp [cX,aN,g2]
  have q3:PV.ds ((z :: R).map rwV)=none:=by simp [PV.ds,rwV,PV.d,deV,pv]
  have n2:jO (.ref a) (.ref b) h=none:=by
   unfold jO;simp only [PV.d,q1,q2,q3]
  rw [n2];simp only [q1,q2];rfl
structure MOk (hs:List Str) (R:List Row) (T:List Int) (m:Cnt):Prop where
 len:m.length=hs.length
 vo:∀ p∈m,VOk hs R T p.1
 own:∀ w v,w < hs.length->v < hs.length->(bU m w).getD v 0<=(bU m v).getD v 0
def MAt (h:PH) (r:Nat) (m:Cnt):Prop:=h[r]?=some (.lst (m.map fun p=>PV.ref p.2))/\∀ p∈m,h[p.2]?=some (.lst (p.1.map PV.int))
theorem xZ {C:Cnt} {w:Nat} (hw:w < C.length):(bU C w,Gc C w)∈C:=by
 have e:C[w]?=some (bU C w,Gc C w):=by
  unfold bU Gc;simp [hw]
 exact cg e
theorem jA {C:Cnt} {w v:Nat} {c:List Int} {r:Nat} (hw:w < C.length):bU (C.set w (c,r)) v=if w=v then c else bU C v:=by
 unfold bU;rw [fJ _ _ _ _ _ hw];split <;> rfl
theorem VOk.at {hs:List Str} {R:List Row} {T:List Int} {m:Cnt} (mo:MOk hs R T m) {w:Nat} (hw:w < hs.length):VOk hs R T (bU m w):=mo.vo _ (xZ (by rw [mo.len]; exact hw))
structure Nx (hs:List Str) (R:List Row) (T:List Int) (lr:Nat) (N:Nat->Prop) (h:PH) (R':List Row) (T':List Int) (m':Cnt) (r':Nat) (h':PH):Prop where
 kp:∀ n o,n≠lr->h[n]?=some o->h'[n]?=some o
 hi:HS hs R' T'
 up:∀ c,VOk hs R T c->VOk hs R' T' c
 lR:R'.length<=R.length+1
 mo:MOk hs R' T' m'
 tp:∀ v,v < hs.length->(bU m' v).getD v 0=T'.getD v 0
 ra:RAt h' lr R'
 ma:MAt h' r' m'
 rN:∀ z∈R',N z.r
 mN:N r'/\∀ p∈m',N p.2
theorem Qs {hs:List Str} (nd:hs.Nodup) (h0:hs≠[]) (h6:hs.length<=6) {R:List Row} {T:List Int} (i:HS hs R T) (lR:R.length<=1000) {m:Cnt} {mr:Nat} (mo:MOk hs R T m) (tp:∀ v,v < hs.length->(bU m v).getD v 0=T.getD v 0) (c:Int) {lr lh:Nat} {h:PH} {N:Nat->Prop} (hN:∀ n,h.length<=n->N n) (nr:¬ N lr) (ra:RAt h lr R) (ma:MAt h mr m) (rN:∀ z∈R,N z.r) (mN:N mr/\∀ p∈m,N p.2) (gh:h[lh]?=some (.lst (hs.map PV.str))) (Q:PV->PH->Prop)
  (k:∀ R' T' m' r' h',Nx hs R T lr N h R' T' m' r' h'->Q (.ref r') h'):(C1 [.ref lr,.ref mr,.ref lh,.int c] h).W Q:=by
 refine eK ?_;unfold G6;rw [show List.map some [PV.ref lr,.ref mr,.ref lh,.int c]++cm (12 - [PV.ref lr,.ref mr,.ref lh,.int c].length) none=[some (.ref lr),some (.ref mr),some (.ref lh),some (.int c),none,none,none,none,none,none,none,none] from rfl]
 have hpos:0 < hs.length:=kg.mpr h0;have hlv:∀ h2,Ext h h2->gX [.ref lh] h2=.ok (.int (hs.length:Int)) h2:=fun h2 x2=>by
  have:=iV (x2 _ _ gh);rw [ae] at this;exact this
 obtain ⟨w,ew,hw⟩:=Wv c hpos;have hwm:w < m.length:=by rw [mo.len]; exact hw
 have mw:=xZ hwm;have vw:=mo.vo _ mw;have gw:=ma.2 _ mw;have hl0:=hlv h (Ext.refl _);rw [aL];simp (disch:=omega) [hl0,ew];refine now ?_;rw [aL];have va:=Cj ma.1 hwm;have vl:=MU gw;simp [va,vl];have x1:Ext h (h++[MO.lst ((bU m w).map PV.int)]):=Ext.app _ _;have g1:(h++[MO.lst ((bU m w).map PV.int)])[h.length]?=some (.lst ((bU m w).map PV.int)):=aK;have nl:=hN h.length (ai _);have l1:h.length<=(h++[MO.lst ((bU m w).map PV.int)]).length:=x1.len;have ne:∀ n,N n->n≠lr:=fun n hn e=>nr (e ▸ hn);have lt:∀ n o,h[n]?=some o->n < h.length:=fun n o e=>(ab.mp e).1;have nlc:∀ n o,h[n]?=some o->n≠h.length:=fun n o e=>a9 (lt n o e);generalize h++[MO.lst ((bU m w).map PV.int)]=h1 at x1 g1 l1;generalize hlc:h.length=lc at g1 nl nlc;refine now ?_;rw [aL];have hl1:=hlv h1 x1;simp (disch:=omega) [hl1];generalize c / (hs.length:Int) % 8=way;refine now ?_;rw [aL,kZ]
 by_cases e5:way < 5
 ·simp [e5];refine Ud nd h6 lR vw.len hw c way (x1 _ _ gh) g1 (x1 _ _ ra.1) (ne _ nl) _ _ _ _ _ _ _ fun S a h2 y7 y8 so kp gl gr=>?_;have ow:(bU m w).getD w 0=T.getD w 0:=tp w hw;obtain ⟨hi,vn⟩:=i.more nd hw vw ow so a lc;have up:∀ c',VOk hs R T c'->VOk hs (R++[⟨⟨(hs.getD w "",(bU m w).getD w 0+1),S,a⟩,(bU m w).set w ((bU m w).getD w 0+1),lc⟩]) (T.set w ((bU m w).getD w 0+1)) c':=fun c' v'=>VOk.up nd i.len hw ow v' rfl;refine now ?_;rw [nN];have kp2:∀ n o,n≠lr->h[n]?=some o->h2[n]?=some o:=fun n o q e=>kp n o q (nlc n o e) (x1 _ _ e);refine N' hwm (by rw [mo.len]; exact h6) (kp2 _ _ (ne _ mN.1) ma.1) _ _ _ _ _ _ _ _ _ _ fun n h3 x3 ln gn=>?_;have ln:lc<=n:=c4 (iy (ab.mp gl).1) ln;refine k _ _ (m.set w ((bU m w).set w ((bU m w).getD w 0+1),lc)) n h3 ⟨fun n o q e=>x3 _ _ (kp2 n o q e),hi,up,by rw [d7]; simp,⟨by rw [ig]; exact mo.len,fun p hp=>?_,fun u v hu hv=>?_⟩,fun v hv=>?_,⟨x3 _ _ gr,fun z hz=>?_⟩,⟨by rw [gn,List.map_set],fun p hp=>?_⟩,fun z hz=>?_,hN n (by omega),fun p hp=>?_⟩
  ·rcases fi hp with q | q
   ·exact up _ (mo.vo p q)
   ·rw [q]; exact vn
  ·rw [jA hwm,jA hwm];have gs:∀ x,((bU m w).set w ((bU m w).getD w 0+1)).getD x 0=if w=x then (bU m w).getD w 0+1 else (bU m w).getD x 0:=fun x=>fJ _ _ _ _ _ (by rw [vw.len]; exact hw);have o1:=mo.own u v hu hv
   by_cases q1:w=u
   ·subst q1
    by_cases q2:w=v
    ·subst q2; exact i8 _
    ·rw [if_pos rfl,if_neg q2,gs v,if_neg q2]; exact o1
   ·by_cases q2:w=v
    ·subst q2;rw [if_neg q1,if_pos rfl,gs w,if_pos rfl];omega
    ·rw [if_neg q1,if_neg q2]; exact o1
  ·rw [jA hwm,fJ _ _ _ _ _ (by rw [i.len]; exact hw)]
   by_cases q2:w=v
   ·subst q2;rw [if_pos rfl,if_pos rfl,fJ _ _ _ _ _ (by rw [vw.len]; exact hw),if_pos rfl]
   ·rw [if_neg q2,if_neg q2]; exact tp v hv
  ·rcases bj.mp hz with q | q
   ·exact x3 _ _ (kp2 _ _ (ne _ (rN z q)) (ra.2 z q))
   ·simp at q;subst q;exact x3 _ _ gl
  ·rcases fi hp with q | q
   ·exact x3 _ _ (kp2 _ _ (ne _ (mN.2 p q)) (ma.2 p q))
   ·rw [q]; exact x3 _ _ gl
  ·rcases bj.mp hz with q | q
   ·exact rN z q
   ·simp at q;subst q;exact nl
  ·rcases fi hp with q | q
   ·exact mN.2 p q
   ·rw [q]; exact nl
 ·simp [e5];rw [aL];obtain ⟨mm,em,hm⟩:∃ m:Int,(if (hs.length:Int) - 1 > 1 then (hs.length:Int) - 1 else 1)=m/\0 < m:=⟨_,rfl,by split <;> omega⟩;obtain ⟨v,ev,hv⟩:=Wv ((w:Int)+1+c / 32 % mm) hpos;have em':(if 1 < (hs.length:Int) - 1 then (hs.length:Int) - 1 else 1)=mm:=em;simp (disch:=omega) [hl1,em',ev];refine now ?_;rw [aL];have hvm:v < m.length:=by rw [mo.len]; exact hv
  have va1:=Cj (x1 _ _ ma.1) hvm;simp [va1];refine now ?_;rw [aL];have vh:∀ h2,Ext h1 h2->vIx (.ref lh) (.int (v:Int)) h2=.ok (.str (hs.getD v "")) h2:=fun h2 x2=>Bu ((x1.trans x2) _ _ gh) hv;generalize hs.getD v "" = hd at vh;have hc:=cE (m:=mV 0) (n:=lr) (js:=[none,some 2,some 9]) (tg:=gN 0) (tst:=bI (aD vEq (aD vAt (aD vAt (aD vAt (mV 0) (mC (.int 0))) (mC (.int 0))) (mC (.int 0))) (aD vAt (mV 1) (mV 2)))) (elt:=mV 0) (δ:=[some (.ref lr),some (.ref mr),some (.ref lh),some (.int c),some (.int (w:Int)),some (.ref lc),some (.int way),none,none,some (.int (v:Int)),some (.ref (Gc m v)),none]) (h:=h1) (h1:=h1) (ys:=R) (emb:=rwV)
   (fun z=>if z.d.nm.1=hd then some (rwV z) else none) (by simp) (x1 _ _ ra.1) (by omega) (fun z _=>⟨[some (rwV z),some (.ref lh),some (.int (v:Int))],by simp [bT],fun h2 x2=>by
    by_cases e:z.d.nm.1=hd
    ·simp [Ci,de0,pv0,vh h2 x2,e]
    ·simp [Ci,de0,pv0,vh h2 x2,e]⟩)
  rw [Cg hd R] at hc;have memF:∀ z∈R.filter fun z=>decide (z.d.nm.1=hd),z∈R:=fun z hz=>(av.mp hz).1;generalize (R.filter fun z=>decide (z.d.nm.1=hd))=F at hc memF;have x2:Ext h1 (h1++[MO.lst (F.map rwV)]):=Ext.app _ _;have g2:(h1++[MO.lst (F.map rwV)])[h1.length]?=some (.lst (F.map rwV)):=aK;simp only [nM,hc,iE,jj,jk];generalize h1++[MO.lst (F.map rwV)]=hA at hc x2 g2;generalize h1.length=lf at hc g2;clear hc;refine now ?_;rw [aL,kZ];have x12:=x1.trans x2;have nx:∀ (h2:PH),Ext hA h2->∀ (f:List Int) (rf:Nat) (x9:Option PV),VOk hs R T f->h2[rf]?=some (.lst (f.map PV.int))->Lt (bO 5 (aY [none,some 5,some 10] (kX (aB (mCB gX (aB (mV 2) aI)) aI)) (gN 0) dJ (mCB qG (aB (aD vAt (mV 1) (mV 0)) (aB (aD vAt (mV 2) (mV 0)) aI))))) { nx:=Lt (cB (aD bK (aD bK (mSl (mV 1) BB (mP (mV 4))) (rZ (aB (mV 5) aI))) (mSl (mV 1) (mP (aD bK (mV 4) (mC (.int 1)))) BB))) { nx:=fun _ h=>Q .non h,rt:=Q },rt:=Q } [some (.ref lr),some (.ref mr),some (.ref lh),some (.int c),some (.int (w:Int)),some (.ref lc),some (.int way),none,none,x9,some (.ref rf),some (.ref lf)] h2:=fun h2 x2' f rf x9 of gf=>by
   have x02:=x12.trans x2';refine Ue h6 vw.len of.len (x02 _ _ gh) ((x2.trans x2') _ _ g1) gf _ _ _ _ _ _ _ _ _ _ fun n h3 x3 ln gn=>?_;refine now ?_;rw [nN];have x03:=x02.trans x3;refine N' hwm (by rw [mo.len]; exact h6) (x03 _ _ ma.1) _ _ _ _ _ _ _ _ _ _ fun n' h4 x4 ln' gn'=>?_;have x04:=x03.trans x4;have vm:=VOk.max vw of;have big:∀ n,h2.length<=n->N n:=fun n hn=>hN n (by have:=x02.len; omega);refine k R T (m.set w (mxs hs.length (bU m w) f,n)) n' h4 ⟨fun n o _ e=>x04 _ _ e,i,fun _ v=>v,by omega,⟨by rw [ig]; exact mo.len,fun p hp=>?_,fun u v hu hv=>?_⟩,fun v hv=>?_,ra.ext x04,⟨by rw [gn',List.map_set],fun p hp=>?_⟩,rN,big n' (by have:=x3.len; omega),fun p hp=>?_⟩
   ·rcases fi hp with q | q
    ·exact mo.vo p q
    ·rw [q]; exact vm
   ·rw [jA hwm,jA hwm];have t1:∀ v,v < hs.length->(if w=v then mxs hs.length (bU m w) f else bU m v).getD v 0=T.getD v 0:=fun v hv=>by
     split
     ·rename_i q;subst q;rw [iZ,if_pos hv];have a1:=tp w hv;have a2:=of.le w hv;have a2:f.getD w 0<=T.getD w 0:=a2;rw [if_neg (by omega)];exact a1
     ·exact tp v hv
    rw [t1 v hv];split
    ·exact vm.le v hv
    ·exact (VOk.at mo hu).le v hv
   ·rw [jA hwm];split
    ·rename_i q;subst q;rw [iZ,if_pos hv];have a1:=tp w hv;have a2:=of.le w hv;have a2:f.getD w 0<=T.getD w 0:=a2;rw [if_neg (by omega)];exact a1
    ·exact tp v hv
   ·rcases fi hp with q | q
    ·exact x04 _ _ (ma.2 p q)
    ·rw [q]; exact x4 _ _ gn
   ·rcases fi hp with q | q
    ·exact mN.2 p q
    ·rw [q]; exact big n ln
  have gv:=ma.2 _ (xZ hvm);have vv:=VOk.at mo hv
  by_cases e7:way < 7
  ·have vn:=Y0 (Ext.app hA [MO.lst []] _ _ g2) (aK (h:=hA) (o:=MO.lst []));have xB:Ext hA (hA++[MO.lst []]):=Ext.app _ _;have gB:=xB _ _ g2
   by_cases eF:F=[]
   ·subst eF;simp [e7,vn];exact nx _ xB _ _ _ vv (xB _ _ (x12 _ _ gv))
   ·rw [decide_eq_false eF] at vn;have hF:0 < F.length:=kg.mpr eF;obtain ⟨z,hz,ez⟩:=pick (e:=rwV) (n:=F.length) rfl hF (c / 64);have hl:=iV gB;rw [ae] at hl;have vz:vIx (.ref lf) (.int (c / 64 % (F.length:Int))) (hA++[MO.lst []])=.ok (rwV z) (hA++[MO.lst []]):=by rw [hW gB,ez]; rfl
    simp (disch:=omega) [e7,vn,hl,vz,XZ];have hzR:=memF z hz;exact nx _ xB _ _ _ (i.rw z hzR).vok (xB _ _ (x12 _ _ (ra.2 z hzR)))
  ·simp [e7];exact nx _ (Ext.refl _) _ _ _ vv (x12 _ _ gv)
theorem Na (d e:Dd) (hd:d.seen.length<=100) (he:e.seen.length<=100) (b:Bool) (hb:∀ h,jZ (tP (kyL d)) (tP (kyL e)) h=.ok (.bl b) h) (h:PH) (Q:PV->PH->Prop) (k:∀ h',Ext h h'->Q (.bl b) h'):(qL [dP d,dP e] h).W Q:=by
 refine eK ?_;simp [C3];refine Cb d hd _ _ fun h1 x1=>?_;refine Cb e he _ _ fun h2 x2=>?_;rw [hb,iE];exact k _ (x1.trans x2)
theorem Qt {d e:Dd} (b:Bool) (h:tot d.seen≠tot e.seen) (hb:b=decide (tot d.seen < tot e.seen)) (h':PH):jZ (tP (kyL d)) (tP (kyL e)) h'=.ok (.bl b) h':=by
 have q:ltL (ltP 39) [.int (1+tot d.seen),.str d.nm.1,.int d.nm.2] [.int (1+tot e.seen),.str e.nm.1,.int e.nm.2]=some b:=by
  have z:¬ PV.int (1+tot d.seen)=PV.int (1+tot e.seen):=fun z=>by injection z with z; omega
  unfold ltL;rw [if_neg z,hb];unfold ltP
  congr 1
  rw [decide_eq_decide];omega
 exact M4 rfl rfl q
theorem Nb {hs:List Str} (h6:hs.length<=6) {R:List Row} (inc:Inc R) (ok:∀ z∈R,eE hs z) (lR:R.length<=63):∃ os,nJ R os:=by
 have mem:∀ d,d∈R.map (·.d) ↔ d∈R.map (·.d):=fun _=>m7;obtain ⟨t1,t2,t3⟩:=U5 h6 inc ok mem;have g:([MO.lst (((R.map (·.d)).map dD).map dP)]:PH)[0]?=some (.lst (((R.map (·.d)).map dD).map dP)):=rfl;obtain ⟨p,h',e,os,o⟩:=kI (lL ((R.map (·.d)).map dD) t1 (by rw [ae,ae]; exact lR) t2 0 _ g (fun _ _=>∃ os,nJ R os) fun os' l' h' x' g' n' m' b'=>⟨os',n',fun d=>(m' d).trans (t3 d),b'⟩);exact ⟨os,o⟩
theorem Ea {hs:List Str} (h6:hs.length<=6) {R:List Row} (inc:Inc R) (ok:∀ z∈R,eE hs z) (lR:R.length<=63):∃ out,InF R out:=by
 have g:([MO.lst ((R.map (·.d)).map deV)]:PH)[0]?=some (.lst ((R.map (·.d)).map deV)):=rfl;obtain ⟨p,h',e,os,o⟩:=kI (E7 h6 inc ok (by rw [ae]; exact lR) (fun _=>m7) g (fun _ _=>∃ out,InF R out) fun out l' h' x' g' o=>⟨out,o⟩);exact ⟨os,o⟩
def tkB (hs:List Str) (C:List Int) (d:De):Bool:=decide (d.nm.2<=C.getD (hs.idxOf d.nm.1) 0)
def Qr (hs:List Str) (R:List Row) (C:List Int):List Row:=R.filter fun z=>tkB hs C z.d
theorem lU {hs:List Str} {x:Str} (hx:x∈hs):hs.idxOf x < hs.length/\hs.getD (hs.idxOf x) "" = x:=by
 have:=jy.mpr hx;exact ⟨this,by simp [this]⟩
theorem dq {hs:List Str} {R:List Row} (inc:Inc R) (C:List Int):DQ R (Qr hs R C):=
 ⟨fun z hz=>(av.mp hz).1,inc.sublist fq,fun z hz y hy e l=>by
  obtain ⟨_,h2⟩:=av.mp hz;have h2:z.d.nm.2<=C.getD (hs.idxOf z.d.nm.1) 0:=of_decide_eq_true h2;refine av.mpr ⟨hy,decide_eq_true ?_⟩;rw [e];omega⟩
theorem Nc {hs:List Str} {D:List De} (lD:D.length<=1000) (hm:∀ d∈D,d.nm.1∈hs) {C:List Int} (lC:C.length=hs.length) {ld lh lc:Nat} {h:PH} (gd:h[ld]?=some (.lst (D.map deV))) (gh:h[lh]?=some (.lst (hs.map PV.str))) (gc:h[lc]?=some (.lst (C.map PV.int))) (Q:PV->PH->Prop)
  (k:∀ n h',Ext h h'->h'[n]?=some (.lst ((D.filter (tkB hs C)).map deV))->Q (.ref n) h'):(vD [.ref ld,.ref lh,.ref lc] h).W Q:=by
 refine eK ?_;unfold C2;rw [show List.map some [PV.ref ld,.ref lh,.ref lc]++cm (3 - [PV.ref ld,.ref lh,.ref lc].length) none=[some (.ref ld),some (.ref lh),some (.ref lc)] from rfl]
 have hc:=cE (m:=mV 0) (n:=ld) (js:=[none,some 2,some 1]) (tg:=gN 0) (tst:=bI (aD vLe (aD vAt (aD vAt (mV 0) (mC (.int 0))) (mC (.int 1))) (aD vAt (mV 1) (mMt isL iJ (mV 2) (aB (aD vAt (aD vAt (mV 0) (mC (.int 0))) (mC (.int 0))) aI))))) (elt:=mV 0) (δ:=[some (.ref ld),some (.ref lh),some (.ref lc)]) (h:=h) (h1:=h) (ys:=D) (emb:=deV)
  (fun d=>if tkB hs C d=true then some (deV d) else none) (by simp) gd (by omega) (fun d hd=>⟨[some (deV d),some (.ref lc),some (.ref lh)],by simp [bT],fun h2 x2=>by
   have ghh:=x2 _ _ gh;obtain ⟨hi,_⟩:=lU (hm d hd);have vi:=sI ghh (hm d hd);have vc:=jW (x2 _ _ gc) (k:=hs.idxOf d.nm.1) (by omega);unfold tkB;generalize C.getD (hs.idxOf d.nm.1) 0=cv at vc;generalize hs.idxOf d.nm.1=j at vi vc
   by_cases e:d.nm.2<=cv
   ·rw [if_pos (decide_eq_true e)];simp [de0,pv0,pv1,fA ghh,vi,vc,e]
   ·rw [if_neg (by simpa using e)]
    simp [de0,pv0,pv1,fA ghh,vi,vc,e]⟩)
 rw [cU] at hc;rw [nN,hc,iE];exact k _ _ (Ext.app _ _) aK
theorem Ck {hs:List Str} {R:List Row} (inc:Inc R) {C:List Int} {D:List De} (mem:∀ d,d∈D ↔ d∈(Qr hs R C).map (·.d)) {ld:Nat} {h:PH} (gd:h[ld]?=some (.lst (D.map deV))) {y:Row} (hy:y∈R):zK (deV y.d) (.ref ld) h=.ok (.bl (tkB hs C y.d)) h/\cT (deV y.d) (.ref ld) h=.ok (.bl (!tkB hs C y.d)) h:=by
 have e:decide (deV y.d∈D.map deV)=tkB hs C y.d:=by
  cases t:tkB hs C y.d with
  | true=>exact decide_eq_true (aq.mpr ⟨y.d,(mem _).mpr (aq.mpr ⟨y,av.mpr ⟨hy,t⟩,rfl⟩),rfl⟩)
  | false=>
   refine decide_eq_false fun z=>?_;obtain ⟨d,hd,ed⟩:=aq.mp z;obtain ⟨x,hx,rfl⟩:=aq.mp ((mem d).mp hd);obtain ⟨hx1,hx2⟩:=av.mp hx;have en:x.d.nm=y.d.nm:=by
    unfold deV at ed;have:=PV.tup.inj ed;simp at this;exact sR this.1
   rw [Cf inc hx1 hy en,t] at hx2;cases hx2
 rw [DA gd,DB gd,HZ gd (C8 _) (Iw _),FQ gd (C8 _) (Iw _),e];exact ⟨rfl,rfl⟩
theorem Ug {hs:List Str} (nd:hs.Nodup) {R:List Row} {T:List Int} (i:HS hs R T) {C:List Int} {D:List De} (mem:∀ d,d∈D ↔ d∈(Qr hs R C).map (·.d)) {os:List Dd} (o:nJ (Qr hs R C) os) {y:Row} (hy:y∈R) (ny:tkB hs C y.d=false):bnd hs D < iL y.d/\∀ p∈lO hs (Qr hs R C) (bnd hs D) os,uS y.d.sn p=true/\∃ z∈R,z.d.nm=p/\iL z.d < iL y.d:=by
 have q:=dq (hs:=hs) i.inc C;have nin:y∉Qr hs R C:=fun h=>by
  have:=(av.mp h).2;rw [ny] at this;cases this
 have lo:bnd hs D < iL y.d:=by
  by_cases z:iL y.d<=bnd hs D
  ·exact (nin (N8 nd i q mem hy z)).elim
  ·omega
 refine ⟨lo,fun p hp=>?_⟩;obtain ⟨⟨z,hz,ez,lz⟩,all⟩:=E9 o hp;have hzR:=q.sub z hz;refine ⟨?_,z,hzR,ez,by omega⟩;obtain ⟨x,hx,ex,lx⟩:=all y.d.nm.1 (i.rw y hy).hand;have lt:x.d.nm.2 < y.d.nm.2:=by
  by_cases w:y.d.nm.2<=x.d.nm.2
  ·exact (nin (q.dn x hx y hy ex.symm w)).elim
  ·omega
 obtain ⟨⟨c0,v0,so,lv⟩,_⟩:=i.lt nd (q.sub x hx) hy ex lt;have hm:p.1∈hs:=by rw [<- ez]; exact (i.rw z hzR).hand
 have p1:1<=p.2:=by rw [<- ez]; exact (i.pos nd hzR).2
 have l2:=lv _ (lU hm).1;unfold uS;rw [so.lk];unfold kC;rw [if_pos ⟨hm,by omega⟩];exact decide_eq_true (by omega)
theorem Nd {hs:List Str} (nd:hs.Nodup) (h6:hs.length<=6) {R:List Row} {T:List Int} (i:HS hs R T) (lR:R.length<=60) {C:List Int} {D:List De} (lD:D.length<=60) (mem:∀ d,d∈D ↔ d∈(Qr hs R C).map (·.d)) {os:List Dd} (o:nJ (Qr hs R C) os) (los:os.length<=60) {lh ld lr ln:Nat} {h:PH} (gd:h[ld]?=some (.lst (D.map deV))) (gr:h[lr]?=some (.lst (R.map rwV))) (gn:h[ln]?=some (.lst ((lO hs (Qr hs R C) (bnd hs D) os).map pv))) (Q:PV->PH->Prop)
  (k:∀ h',Ext h h'->Q (.bl true) h'):(vE [.ref lh,.ref ld,.ref lr,.ref ln,.int (bnd hs D)] h).W Q:=by
 refine eK ?_;unfold C4;rw [show List.map some [PV.ref lh,.ref ld,.ref lr,.ref ln,.int (bnd hs D)]++cm (8 - [PV.ref lh,.ref ld,.ref lr,.ref ln,.int (bnd hs D)].length) none=[some (.ref lh),some (.ref ld),some (.ref lr),some (.ref ln),some (.int (bnd hs D)),none,none,none] from rfl]
 have bes:∀ y∈R,tkB hs C y.d=false->_:=fun y hy ny=>Ug nd i mem o hy ny;have lN:(lO hs (Qr hs R C) (bnd hs D) os).length<=60:=by
  unfold lO;have a1:=c9 (allB hs (Qr hs R C)) ((os.filter (dW (bnd hs D))).map (·.nm));rw [ae] at a1;have a2:=c9 (dW (bnd hs D)) os;omega
 generalize lO hs (Qr hs R C) (bnd hs D) os=names at gn bes lN;generalize hM:bnd hs D=M at bes;have hc:=cE (m:=mV 1) (n:=ld) (js:=[none,some 3]) (tg:=gN 0) (tst:=bI (aD zK (aD vAt (mV 0) (mC (.int 0))) (mV 1))) (elt:=mV 0) (δ:=[some (.ref lh),some (.ref ld),some (.ref lr),some (.ref ln),some (.int M),none,none,none]) (h:=h) (h1:=h) (ys:=D) (emb:=deV)
  (fun d=>if decide (d.nm∈names)=true then some (deV d) else none) (by simp) gd (by omega) (fun d hd=>⟨[some (deV d),some (.ref ln)],by simp [bT],fun h2 x2=>by
   have gn2:=x2 _ _ gn;have vh:zK (pv d.nm) (.ref ln) h2=.ok (.bl (decide (d.nm∈names))) h2:=by
    rw [DA gn2,HZ gn2 rfl (U8 _)]
    congr 2
    rw [decide_eq_decide];exact U3
   cases e:decide (d.nm∈names) with
   | true=>rw [e] at vh; simp [de0,vh]
   | false=>rw [e] at vh; simp [de0,vh]⟩)
 rw [cU] at hc;have mF:∀ d∈D.filter fun d=>decide (d.nm∈names),d∈D/\d.nm∈names:=fun d hd=>⟨(av.mp hd).1,of_decide_eq_true (av.mp hd).2⟩;have lF:(D.filter fun d=>decide (d.nm∈names)).length<=60:=c4 (c9 _ _) lD;generalize (D.filter fun d=>decide (d.nm∈names))=F at hc mF lF;rw [aL,nM,hc,iE];have x1:Ext h (h++[MO.lst (F.map deV)]):=Ext.app _ _;have gF:(h++[MO.lst (F.map deV)])[h.length]?=some (.lst (F.map deV)):=aK;generalize h++[MO.lst (F.map deV)]=h1 at x1 gF;generalize h.length=lf at gF;simp only [jj,jk];refine now ?_;rw [aL];refine oC (n:=lr) (xs:=R.map rwV) (h1:=h1) (fun _ δ h'=>Ext h1 h'/\∃ x6 x7,δ=[some (.ref lh),some (.ref ld),some (.ref lr),some (.ref ln),some (.int M),some (.ref lf),x6,x7]) (by simp) (x1 _ _ gr) ⟨Ext.refl _,_,_,rfl⟩ (fun q δ h' _ z=>(x1.trans z.1) _ _ gr) ?_ ?_
 ·rintro q y δ h' hy ⟨x2,x6,x7,rfl⟩;rw [au] at hy;obtain ⟨z,hz,rfl⟩:=a7.mp hy;have hzm:=cg hz;refine ⟨_,rfl,?_⟩
  show (sN [some (.ref lh),some (.ref ld),some (.ref lr),some (.ref ln),some (.int M),some (.ref lf),some (deV z.d),some (.ref z.r)] h').W _
  have x02:=x1.trans x2;have vn:=(Ck i.inc mem (x02 _ _ gd) hzm).2;unfold sN;rw [kZ];cases t:tkB hs C z.d with
  | true=>
   rw [t] at vn;simp [vn];exact x2
  | false=>
   rw [t] at vn;obtain ⟨b1,b2⟩:=bes z hzm t;simp [vn];rw [aL,kZ];simp;refine DX z.d (by have:=(i.rw z hzm).ok.l100 h6; omega) _ _ fun h3 x3=>?_;have nle:¬ iL z.d<=M:=by omega
   have hc2:=cE (m:=mV 3) (n:=ln) (js:=[none,some 6]) (tg:=gN 0) (tst:=dJ) (elt:=bE 2 fE (aB (aD vAt (mV 1) (mC (.int 1))) (aB (mV 0) aI))) (δ:=[some (.ref lh),some (.ref ld),some (.ref lr),some (.ref ln),some (.int M),some (.ref lf),some (deV z.d),some (.ref z.r)]) (h:=h3) (h1:=h3) (ys:=names) (emb:=pv)
    (fun p=>some (.bl true)) (by simp) ((x02.trans x3) _ _ gn) (by omega) (fun p hp=>⟨[some (pv p),some (deV z.d)],by simp [bT],fun h2 _=>⟨rfl,by
     have:=AQ z.d.sn p h2;rw [(b2 p hp).1] at this;simp [de1,this]⟩⟩)
   rw [filterMap_some,show (names.map fun _=>PV.bl true)=(names.map fun _=>true).map PV.bl by rw [cj]; rfl] at hc2;have x4:Ext h3 (h3++[MO.lst ((names.map fun _=>true).map PV.bl)]):=Ext.app _ _;have va:=wM (aK (h:=h3) (o:=MO.lst ((names.map fun _=>true).map PV.bl)));rw [show (names.map fun _=>true).all id=true by simp] at va;generalize h3++[MO.lst ((names.map fun _=>true).map PV.bl)]=h4 at hc2 x4 va;simp [nle,hc2,va];refine now ?_;rw [kZ];have x04:=(x02.trans x3).trans x4;have w:(aY [none,some 6] (aX (mV 5)) (gN 0) dJ (bE 2 qL (aB (mV 0) (aB (mV 1) aI))) [some (.ref lh),some (.ref ld),some (.ref lr),some (.ref ln),some (.int M),some (.ref lf),some (deV z.d),some (.ref z.r)] h4).W fun p h5=>∃ l5,p=.ref l5/\Ext h4 h5/\h5[l5]?=some (.lst ((F.map fun _=>true).map PV.bl)):=by
    have gF4:=(x2.trans (x3.trans x4)) _ _ gF;refine PU (ys:=F) (emb:=deV) (fun _=>.bl true) (cZ (by simp) gF4) (cK gF4) (by omega) (fun d hd=>⟨[some (deV d),some (deV z.d)],by simp [bT],fun h5 x5 Q5 k5=>?_⟩) fun l5 h5 x5 g5=>⟨l5,rfl,x5,by rw [g5,cj]; rfl⟩;obtain ⟨hd1,hd2⟩:=mF d hd;obtain ⟨y,hyQ,rfl⟩:=aq.mp ((mem d).mp hd1);obtain ⟨_,y',hy',en,lt⟩:=b2 y.d.nm hd2;have hyR:=(av.mp hyQ).1;have:y'=y:=Cf i.inc hy' hyR en;subst this;simp;rw [Ce,Ce];have lt:1+tot y'.d.sn < 1+tot z.d.sn:=lt;exact Na (dD y'.d) (dD z.d) ((i.rw y' hyR).ok.l100 h6) ((i.rw z hzm).ok.l100 h6) true (Qt true (by show tot y'.d.sn≠tot z.d.sn; omega) (by show true=decide (tot y'.d.sn < tot z.d.sn); rw [decide_eq_true (by omega)])) _ _ k5
   obtain ⟨p5,h5,e5,l5,rfl,x5,g5⟩:=kI w;have va5:=wM g5;rw [show (F.map fun _=>true).all id=true by simp] at va5;simp [e5,va5];exact x2.trans (x3.trans (x4.trans x5))
 ·rintro δ h' ⟨x2,x6,x7,rfl⟩;refine now ?_;simp;exact k _ (x1.trans x2)
theorem Qu {M M':Int} {out:List Dd} (h:M<=M'\/∀ d∈out,dW M d=false):(out.filter (dW M')).filter (dW M)=out.filter (dW M):=by
 rw [List.filter_filter];refine List.filter_congr fun d hd=>?_;rcases h with h | h
 ·unfold dW
  by_cases e:1+tot d.seen<=M
  ·rw [decide_eq_true e,decide_eq_true (show 1+tot d.seen<=M' by omega)]; rfl
  ·rw [decide_eq_false e]; rfl
 ·rw [h d hd]; rfl
theorem Qv {hs:List Str} (nd:hs.Nodup) (h0:hs≠[]) (h6:hs.length<=6) {R:List Row} {T:List Int} (i:HS hs R T) (lR:R.length<=50) {C:List Int} {D:List De} (mem:∀ d,d∈D ↔ d∈(Qr hs R C).map (·.d)) {out:List Dd} (fo:InF (Qr hs R C) out) {y:Row} (hy:y∈R) {lh ld lr le:Nat} {h:PH} (gh:h[lh]?=some (.lst (hs.map PV.str))) (gd:h[ld]?=some (.lst (D.map deV))) (ra:RAt h lr R) (ge:h[le]?=some (.lst ((out.filter (dW (bnd hs D))).map dP))) (x5 x8:Option PV) (E:FE)
  (k:∀ h' y8,Ext h h'->E.nx [some (.ref lh),some (.ref ld),some (.ref lr),some (.int (bnd hs D)),some (.ref le),x5,some (deV y.d),some (.ref y.r),y8] h'):
  (fM [some (.ref lh),some (.ref ld),some (.ref lr),some (.int (bnd hs D)),some (.ref le),x5,some (deV y.d),some (.ref y.r),x8] h).W E:=by
 unfold fM;have q:=dq (hs:=hs) i.inc C;have vy:=(i.rw y hy).vok;have hc:=cE (m:=mV 2) (n:=lr) (js:=[none,some 1,some 7,some 0]) (tg:=gN 0) (tst:=FN (bI (aD zK (aD vAt (mV 0) (mC (.int 0))) (mV 1))) (bI (aD vLe (aD vAt (aD vAt (aD vAt (mV 0) (mC (.int 0))) (mC (.int 0))) (mC (.int 1))) (aD vAt (mV 2) (mMt isL iJ (mV 3) (aB (aD vAt (aD vAt (aD vAt (mV 0) (mC (.int 0))) (mC (.int 0))) (mC (.int 0))) aI)))))) (elt:=aD vAt (mV 0) (mC (.int 0))) (δ:=[some (.ref lh),some (.ref ld),some (.ref lr),some (.int (bnd hs D)),some (.ref le),x5,some (deV y.d),some (.ref y.r),x8]) (h:=h) (h1:=h) (ys:=R) (emb:=rwV)
  (fun z=>if (tkB hs C z.d || tkB hs y.c z.d)=true then some (deV z.d) else none) (by simp) ra.1 (by omega) (fun z hz=>⟨[some (rwV z),some (.ref ld),some (.ref y.r),some (.ref lh)],by simp [bT],fun h2 x2=>by
   have ghh:=x2 _ _ gh;have hm:=(i.rw z hz).hand;obtain ⟨hi,_⟩:=lU hm;have vi:=sI ghh hm;have vc:=jW (x2 _ _ (ra.2 y hy)) (k:=hs.idxOf z.d.nm.1) (by rw [vy.len]; exact hi);have vh:=(Ck i.inc mem (x2 _ _ gd) hz).1;have eT:tkB hs y.c z.d=decide (z.d.nm.2<=y.c.getD (hs.idxOf z.d.nm.1) 0):=rfl;rw [eT];generalize y.c.getD (hs.idxOf z.d.nm.1) 0=cv at vc;generalize hs.idxOf z.d.nm.1=j at vi vc;cases t:tkB hs C z.d with
   | true=>
    rw [t] at vh;simp [Ci,vh]
   | false=>
    rw [t] at vh
    by_cases e:z.d.nm.2<=cv
    ·rw [decide_eq_true e];simp [Ci,vh,de0,pv0,pv1,fA ghh,vi,vc,e]
    ·rw [decide_eq_false e];simp [Ci,vh,de0,pv0,pv1,fA ghh,vi,vc,e]⟩)
 rw [cU (fun z:Row=>tkB hs C z.d || tkB hs y.c z.d)] at hc;obtain ⟨Q',eQ⟩:∃ Q',Q'=R.filter fun z=>tkB hs C z.d || tkB hs y.c z.d:=⟨_,rfl⟩;rw [<- eQ,show (Q'.map fun z=>deV z.d)=(Q'.map (·.d)).map deV by rw [cj]; rfl] at hc;have q':DQ R Q':=by
  rw [eQ];refine ⟨fun z hz=>(av.mp hz).1,i.inc.sublist fq,fun z hz u hu e l=>?_⟩;obtain ⟨_,h2⟩:=av.mp hz;refine av.mpr ⟨hu,?_⟩;rw [Bool.or_eq_true] at h2 ⊢;unfold tkB at h2 ⊢;rw [decide_eq_true_iff,decide_eq_true_iff] at h2 ⊢;rw [e];omega
 have sub:∀ z∈Qr hs R C,z∈Q':=fun z hz=>by
  rw [eQ];obtain ⟨a,b⟩:=av.mp hz;exact av.mpr ⟨a,by rw [b]; rfl⟩
 have lQ:Q'.length<=50:=by rw [eQ]; exact c4 (c9 _ _) lR
 have okQ:∀ z∈Q',eE hs z:=fun z hz=>(i.rw z (q'.sub z hz)).ok;clear eQ;obtain ⟨out',fo'⟩:=Ea h6 q'.inc okQ (by omega);have mem':∀ d,d∈Q'.map (·.d) ↔ d∈Q'.map (·.d):=fun _=>m7;have same:=Gb nd i q q' sub mem fo fo';have lo:bnd hs D<=bnd hs (Q'.map (·.d))\/∀ d∈out',dW (bnd hs D) d=false:=by
  by_cases p:0 < bnd hs D
  ·exact .inl (N9 nd h0 i q' sub mem mem' p)
  ·refine .inr fun d hd=>?_;obtain ⟨z,hz,rfl⟩:=fo'.sub hd;rw [mS];have:=(i.pos nd (q'.sub z hz)).1;exact decide_eq_false (by omega)
 have ll:=Qu lo;have pl1:((out.filter (dW (bnd hs D))).map dP).all (PV.pl 39)=true:=U9 (R:=Qr hs R C) fun d hd=>fo.sub (av.mp hd).1;rw [aL,nM,hc,iE];have x1:Ext h (h++[MO.lst ((Q'.map (·.d)).map deV)]):=Ext.app _ _;have g1:(h++[MO.lst ((Q'.map (·.d)).map deV)])[h.length]?=some (.lst ((Q'.map (·.d)).map deV)):=aK;generalize h++[MO.lst ((Q'.map (·.d)).map deV)]=h1 at x1 g1;generalize h.length=l1 at g1;simp only [jj,jk];refine now ?_;rw [kZ];have w:(aY [none,some 3] (aX (bE 2 fT (aB (mV 0) (aB (mV 8) aI)))) (gN 0) (bI (aD vLe (bE 1 dU (aB (mV 0) aI)) (mV 1))) (mV 0) [some (.ref lh),some (.ref ld),some (.ref lr),some (.int (bnd hs D)),some (.ref le),x5,some (deV y.d),some (.ref y.r),some (.ref l1)] h1).W fun p h3=>∃ l3,p=.ref l3/\Ext h1 h3/\h3[l3]?=some (.lst ((out.filter (dW (bnd hs D))).map dP)):=by
  obtain ⟨p2,h2,e2,l2,rfl,x2,g2⟩:=kI (xW h0 h6 q'.inc okQ (by omega) (by rw [ae]; omega) mem' fo' (x1 _ _ gh) g1 (fun p h'=>∃ l,p=.ref l/\Ext h1 h'/\h'[l]?=some (.lst ((out'.filter (dW (bnd hs (Q'.map (·.d))))).map dP))) fun l h' x' _ g'=>⟨l,rfl,x',g'⟩);have lo':(out'.filter (dW (bnd hs (Q'.map (·.d))))).length<=50:=by
   have:=fo'.len;have:=c9 (dW (bnd hs (Q'.map (·.d)))) out';omega
  refine vF (ys:=out'.filter (dW (bnd hs (Q'.map (·.d))))) (emb:=dP) (dW (bnd hs D)) dP (cZ (by rw [wL]; simp [e2]) g2) (cK g2) (by omega) (fun d hd=>⟨_,rfl,fun h3 x3 Q3 k3=>?_,fun h3 x3=>by simp [bT]⟩) fun l3 h3 x3 _ g3=>⟨l3,rfl,x2.trans x3,?_⟩
  ·obtain ⟨z,hz,rfl⟩:=fo'.sub (av.mp hd).1;simp [bT];refine mR (dD z.d) ((okQ z hz).l100 h6) _ _ fun h5 x5=>?_;simp;exact k3 _ x5
  ·rw [g3,ll,<- same]
 obtain ⟨p3,h3,e3,l3,rfl,x3,g3⟩:=kI w;have x13:=x1.trans x3;have ne:=I0 g3 (x13 _ _ ge) pl1 pl1;rw [decide_eq_true rfl] at ne;simp [e3,ne];exact k _ _ x13
theorem Qw {hs:List Str} (nd:hs.Nodup) (h0:hs≠[]) (h6:hs.length<=6) {R:List Row} {T:List Int} (i:HS hs R T) (lR:R.length<=50) {C:List Int} {D:List De} (lD:D.length<=50) (mem:∀ d,d∈D ↔ d∈(Qr hs R C).map (·.d)) {lh ld lr:Nat} {h:PH} (gh:h[lh]?=some (.lst (hs.map PV.str))) (gd:h[ld]?=some (.lst (D.map deV))) (ra:RAt h lr R) (Q:PV->PH->Prop)
  (k:∀ h',Ext h h'->Q (.bl true) h'):(fB [.ref lh,.ref ld,.ref lr,.int (bnd hs D)] h).W Q:=by
 refine eK ?_;unfold iK;rw [show List.map some [PV.ref lh,.ref ld,.ref lr,.int (bnd hs D)]++cm (9 - [PV.ref lh,.ref ld,.ref lr,.int (bnd hs D)].length) none=[some (.ref lh),some (.ref ld),some (.ref lr),some (.int (bnd hs D)),none,none,none,none,none] from rfl]
 have q:=dq (hs:=hs) i.inc C;have okQ:∀ z∈Qr hs R C,eE hs z:=fun z hz=>(i.rw z (q.sub z hz)).ok;have lQ:(Qr hs R C).length<=50:=c4 (c9 _ _) lR;obtain ⟨out,fo⟩:=Ea h6 q.inc okQ (by omega);rw [aL];simp;refine xW h0 h6 q.inc okQ (by omega) (by omega) mem fo gh gd _ fun le h1 x1 _ ge=>?_;refine now ?_;rw [aL];have hc:=cE (m:=mV 2) (n:=lr) (js:=[none,some 1]) (tg:=gN 0) (tst:=tU (bI (aD vEq (aD vAt (aD vAt (aD vAt (mV 0) (mC (.int 0))) (mC (.int 2))) (mC (.int 0))) (mC (.str "back")))) (bI (aD cT (aD vAt (mV 0) (mC (.int 0))) (mV 1)))) (elt:=mV 0) (δ:=[some (.ref lh),some (.ref ld),some (.ref lr),some (.int (bnd hs D)),some (.ref le),none,none,none,none]) (h:=h1) (h1:=h1) (ys:=R) (emb:=rwV)
  (fun z=>if (decide (acS z.d.ac="back") && !tkB hs C z.d)=true then some (rwV z) else none) (by simp) (x1 _ _ ra.1) (by omega) (fun z hz=>⟨[some (rwV z),some (.ref ld)],by simp [bT],fun h2 x2=>by
   have vn:=(Ck i.inc mem ((x1.trans x2) _ _ gd) hz).2
   by_cases e:acS z.d.ac="back"
   ·cases t:tkB hs C z.d with
    | true=>rw [t] at vn; simp [Ci,de2,ac0,e,vn]
    | false=>rw [t] at vn; simp [Ci,de2,ac0,e,vn]
   ·simp [Ci,de2,ac0,e]⟩)
 rw [cU (fun z:Row=>decide (acS z.d.ac="back") && !tkB hs C z.d)] at hc;have mB:∀ z∈R.filter fun z=>decide (acS z.d.ac="back") && !tkB hs C z.d,z∈R:=fun z hz=>(av.mp hz).1;generalize (R.filter fun z=>decide (acS z.d.ac="back") && !tkB hs C z.d)=B at hc mB;rw [nM,hc,iE];have x2:Ext h1 (h1++[MO.lst (B.map rwV)]):=Ext.app _ _;have gB:(h1++[MO.lst (B.map rwV)])[h1.length]?=some (.lst (B.map rwV)):=aK;generalize h1++[MO.lst (B.map rwV)]=h2 at x2 gB;generalize h1.length=lb at gB;simp only [jj,jk];refine now ?_;rw [aL];have sl:=BJ (lo:=none) (hi:=some 3) gB;have ec:iT (B.map rwV) none (some 3)=(B.take 3).map rwV:=by
  unfold iT;rw [<- List.map_drop,<- List.map_take];have e1:HT.sIx (B.map rwV).length 0 none=0:=rfl;have e2:HT.sIx (B.map rwV).length (B.map rwV).length (some (3:Int))=min 3 B.length:=by rw [ae]; rfl
  rw [e1,e2,List.drop_zero,Nat.sub_zero]
  congr 1
  rcases Nat.le_total 3 B.length with z | z
  ·rw [Nat.min_eq_left z]
  ·rw [Nat.min_eq_right z,iu,List.take_of_length_le z]
 rw [ec] at sl;have mB3:∀ z∈B.take 3,z∈R:=fun z hz=>mB z (List.mem_of_mem_take hz);generalize B.take 3=B3 at sl mB3;have x3:Ext h2 (h2++[MO.lst (B3.map rwV)]):=Ext.app _ _;have g3:(h2++[MO.lst (B3.map rwV)])[h2.length]?=some (.lst (B3.map rwV)):=aK;generalize h2++[MO.lst (B3.map rwV)]=h3 at sl x3 g3;generalize h2.length=l3 at sl g3;have x03:=x1.trans (x2.trans x3);have ge3:=(x2.trans x3) _ _ ge;refine oC (n:=l3) (xs:=B3.map rwV) (h1:=h3) (fun _ δ h'=>Ext h3 h'/\∃ x6 x7 x8,δ=[some (.ref lh),some (.ref ld),some (.ref lr),some (.int (bnd hs D)),some (.ref le),some (.ref lb),x6,x7,x8]) (by simp [sl]) g3 ⟨Ext.refl _,_,_,_,rfl⟩ (fun q δ h' _ z=>z.1 _ _ g3) ?_ ?_
 ·rintro q y δ h' hy ⟨x4,x6,x7,x8,rfl⟩;rw [au] at hy;obtain ⟨z,hz,rfl⟩:=a7.mp hy;have hzm:=mB3 z (cg hz);refine ⟨_,rfl,?_⟩;have x04:=x03.trans x4;exact Qv nd h0 h6 i lR mem fo hzm (x04 _ _ gh) (x04 _ _ gd) (ra.ext x04) (x4 _ _ ge3) _ _ _ fun h5 y8 x5=>⟨x4.trans x5,_,_,_,rfl⟩
 ·rintro δ h' ⟨x4,x6,x7,x8,rfl⟩;refine now ?_;simp;exact k _ (x03.trans x4)
theorem JQ {hs:List Str} (nd:hs.Nodup) {R:List Row} {T:List Int} (i:HS hs R T) {m:Cnt} (mo:MOk hs R T m) {u:Nat} (hu:u < hs.length) {M:Int} {os:List Dd} (o:nJ (Qr hs R (bU m u)) os) {p:Str×Int} (hp:p∈lO hs (Qr hs R (bU m u)) M os):p.1∈hs/\∀ v,v < hs.length->p.2<=(bU m v).getD (hs.idxOf p.1) 0:=by
 obtain ⟨⟨z,hz,ez,_⟩,all⟩:=E9 o hp;have q:=dq (hs:=hs) i.inc (bU m u);have hm:p.1∈hs:=by rw [<- ez]; exact (i.rw z (q.sub z hz)).hand
 refine ⟨hm,fun v hv=>?_⟩;have eg:hs.getD v "" = hs[v]:=by simp [hv]
 obtain ⟨x,hx,ex,lx⟩:=all (hs.getD v "") (by rw [eg]; exact fm hv);have hxR:=q.sub x hx;have l1:=of_decide_eq_true (av.mp hx).2;have iv:hs.idxOf (hs.getD v "")=v:=by rw [eg]; exact mq nd v hv
 rw [ex,iv] at l1;have l2:=mo.own u v hu hv;have l3:=(VOk.at mo hv).cl x hxR v hv ex (by omega) _ (lU hm).1;omega
theorem Qx {hs:List Str} {names:List (Str×Int)} (lN:names.length<=60) {c:List Int} (lc:c.length=hs.length) (all:∀ p∈names,p.1∈hs/\p.2<=c.getD (hs.idxOf p.1) 0) {lh ln rc:Nat} {h:PH} (gh:h[lh]?=some (.lst (hs.map PV.str))) (gn:h[ln]?=some (.lst (names.map pv))) (gc:h[rc]?=some (.lst (c.map PV.int))) (x0 x1 x3 x4 x5 x6 x7 x8 x11:Option PV) (E:FE)
  (k:∀ h',Ext h h'->E.nx [x0,x1,some (.ref lh),x3,x4,x5,x6,x7,x8,some (.ref ln),some (.ref rc),x11] h'):
  (C6 [x0,x1,some (.ref lh),x3,x4,x5,x6,x7,x8,some (.ref ln),some (.ref rc),x11] h).W E:=by
 unfold C6;rw [kZ];have hc:=cE (m:=mV 9) (n:=ln) (js:=[none,some 10,some 2]) (tg:=gN 0) (tst:=bI (aD vGt (aD vAt (mV 0) (mC (.int 1))) (aD vAt (mV 1) (mMt isL iJ (mV 2) (aB (aD vAt (mV 0) (mC (.int 0))) aI))))) (elt:=mV 0) (δ:=[x0,x1,some (.ref lh),x3,x4,x5,x6,x7,x8,some (.ref ln),some (.ref rc),x11]) (h:=h) (h1:=h) (ys:=names) (emb:=pv)
  (fun _=>none) (by simp) gn (by omega) (fun p hp=>⟨[some (pv p),some (.ref rc),some (.ref lh)],by simp [bT],fun h2 x2=>by
   obtain ⟨hm,l⟩:=all p hp;have ghh:=x2 _ _ gh;have vi:=sI ghh hm;have vc:=jW (x2 _ _ gc) (k:=hs.idxOf p.1) (by rw [lc]; exact (lU hm).1);generalize c.getD (hs.idxOf p.1) 0=cv at vc l;generalize hs.idxOf p.1=j at vi vc;have l':¬ cv < p.2:=by omega
   simp [pv0,pv1,fA ghh,vi,vc,l']⟩)
 rw [show names.filterMap (fun _=>(none:Option PV))=[] by simp] at hc;have ne:=I0 (Ext.app (h++[MO.lst []]) [MO.lst []] _ _ (aK (h:=h) (o:=MO.lst []))) (aK (h:=h++[MO.lst []]) (o:=MO.lst [])) rfl rfl;rw [decide_eq_true rfl] at ne;have x2:Ext h (h++[MO.lst []]++[MO.lst []]):=(Ext.app _ _).trans (Ext.app _ _);generalize hB:h++[MO.lst []]=hA at hc ne x2;generalize h.length=l1 at hc ne;simp [hc,ne];exact k _ x2
theorem Qy {hs:List Str} (nd:hs.Nodup) (h0:hs≠[]) (h6:hs.length<=6) {R:List Row} {T:List Int} (i:HS hs R T) (lR:R.length<=50) {m:Cnt} {mr:Nat} (mo:MOk hs R T m) {lr lh u:Nat} (hu:u < hs.length) {h:PH} (gh:h[lh]?=some (.lst (hs.map PV.str))) (ra:RAt h lr R) (ma:MAt h mr m) (x0 x1 x4 x5 x8 x9 x10 x11:Option PV) (E:FE)
  (k:∀ h' y8 y9 y10 y11,Ext h h'->E.nx [x0,x1,some (.ref lh),some (.ref lr),x4,x5,some (.ref mr),some (.int (u:Int)),y8,y9,y10,y11] h'):
  (C7 [x0,x1,some (.ref lh),some (.ref lr),x4,x5,some (.ref mr),some (.int (u:Int)),x8,x9,x10,x11] h).W E:=by
 unfold C7;have hum:u < m.length:=by rw [mo.len]; exact hu
 have vu:=VOk.at mo hu;have gu:=ma.2 _ (xZ hum);have q:=dq (hs:=hs) i.inc (bU m u);have okQ:∀ z∈Qr hs R (bU m u),eE hs z:=fun z hz=>(i.rw z (q.sub z hz)).ok;have lQ:(Qr hs R (bU m u)).length<=50:=c4 (c9 _ _) lR;obtain ⟨os,oo⟩:=Nb h6 q.inc okQ (by omega);have los:=oo.len q.inc;have hc:=cE (m:=mV 3) (n:=lr) (js:=[none]) (tg:=gN 0) (tst:=dJ) (elt:=aD vAt (mV 0) (mC (.int 0))) (δ:=[x0,x1,some (.ref lh),some (.ref lr),x4,x5,some (.ref mr),some (.int (u:Int)),x8,x9,x10,x11]) (h:=h) (h1:=h) (ys:=R) (emb:=rwV)
  (fun z=>some (deV z.d)) (by simp) ra.1 (by omega) (fun z hz=>⟨[some (rwV z)],by simp [bT],fun h2 _=>⟨rfl,by simp [Ci]⟩⟩)
 rw [filterMap_some,show (R.map fun z=>deV z.d)=(R.map (·.d)).map deV by rw [cj]; rfl] at hc;have x1':Ext h (h++[MO.lst ((R.map (·.d)).map deV)]):=Ext.app _ _;have g1:(h++[MO.lst ((R.map (·.d)).map deV)])[h.length]?=some (.lst ((R.map (·.d)).map deV)):=aK;generalize h++[MO.lst ((R.map (·.d)).map deV)]=h1 at hc x1' g1;generalize h.length=l1 at hc g1;have va:=Cj (x1' _ _ ma.1) hum;rw [aL,nM];obtain ⟨p2,h2,e2,l2,rfl,x2,g2⟩:=kI (Nc (D:=R.map (·.d)) (by rw [ae]; omega) (fun d hd=>by obtain ⟨z,hz,rfl⟩:=aq.mp hd; exact (i.rw z hz).hand) vu.len g1 (x1' _ _ gh) (x1' _ _ gu) (fun p h'=>∃ l,p=.ref l/\Ext h1 h'/\h'[l]?=some (.lst (((R.map (·.d)).filter (tkB hs (bU m u))).map deV))) fun l h' x' g'=>⟨l,rfl,x',g'⟩);have rv:=JA g2;rw [<- List.map_reverse] at rv;have mem:∀ d,d∈((R.map (·.d)).filter (tkB hs (bU m u))).reverse ↔ d∈(Qr hs R (bU m u)).map (·.d):=fun d=>by
  rw [List.mem_reverse,List.filter_map];rfl
 have lD:(((R.map (·.d)).filter (tkB hs (bU m u))).reverse).length<=50:=by
  rw [List.length_reverse];exact c4 (c9 _ _) (by rw [ae]; exact lR)
 generalize ((R.map (·.d)).filter (tkB hs (bU m u))).reverse=D at rv mem lD;have x3:Ext h2 (h2++[MO.lst (D.map deV)]):=Ext.app _ _;have gd:(h2++[MO.lst (D.map deV)])[h2.length]?=some (.lst (D.map deV)):=aK;generalize h2++[MO.lst (D.map deV)]=h3 at rv x3 gd;generalize h2.length=ld at rv gd;simp [hc,va,e2,rv];have x03:=x1'.trans (x2.trans x3);refine now ?_;rw [aL];simp;refine Qm nd h0 h6 q.inc okQ (by omega) (by omega) mem oo (x03 _ _ gh) gd _ fun ln h4 x4' _ gn=>?_;have all:∀ p∈lO hs (Qr hs R (bU m u)) (bnd hs D) os,_:=fun p hp=>JQ nd i mo hu oo hp;have lN:(lO hs (Qr hs R (bU m u)) (bnd hs D) os).length<=60:=by
  unfold lO;have a1:=c9 (allB hs (Qr hs R (bU m u))) ((os.filter (dW (bnd hs D))).map (·.nm));rw [ae] at a1;have a2:=c9 (dW (bnd hs D)) os;omega
 have x04:=x03.trans x4';refine now ?_;rw [aL];refine oC (n:=mr) (xs:=m.map fun p=>PV.ref p.2) (h1:=h4) (fun _ δ h'=>Ext h4 h'/\∃ x10,δ=[x0,x1,some (.ref lh),some (.ref lr),x4,x5,some (.ref mr),some (.int (u:Int)),some (.ref ld),some (.ref ln),x10,x11]) (by simp) (x04 _ _ ma.1) ⟨Ext.refl _,_,rfl⟩ (fun q δ h' _ z=>(x04.trans z.1) _ _ ma.1) ?_ ?_
 ·rintro v y δ h' hy ⟨x5',x10',rfl⟩;rw [au] at hy;obtain ⟨p,hp,rfl⟩:=a7.mp hy;have hpm:=cg hp;refine ⟨_,rfl,?_⟩;have x05:=x04.trans x5';have hvm:=(ab.mp hp).1;have ev:bU m v=p.1:=by unfold bU; simp [hp]
  refine Qx (c:=p.1) lN (mo.vo p hpm).len (fun p' hp'=>⟨(all p' hp').1,by rw [<- ev]; exact (all p' hp').2 v (by rw [<- mo.len]; exact hvm)⟩) (x05 _ _ gh) (x5' _ _ gn) (x05 _ _ (ma.2 p hpm)) _ _ _ _ _ _ _ _ _ _ fun h6' x6'=>⟨x5'.trans x6',_,rfl⟩
 ·rintro δ h' ⟨x5',x10',rfl⟩;have x05:=x04.trans x5';refine now ?_;rw [aL];simp;refine xT h0 h6 (by omega) (U7 h6 okQ mem) (x05 _ _ gh) ((x4'.trans x5') _ _ gd) _ fun h6' x6'=>?_;have eM:kJ (hs.map fun x=>stV (maxD ((D.filter fun d=>acB d.ac).filter fun d=>decide (d.nm.1=x))))=bnd hs D:=rfl;rw [eM];have x06:=x05.trans x6';have x36:=x4'.trans (x5'.trans x6');refine now ?_;rw [kZ];obtain ⟨p7,h7,e7,rfl,x7'⟩:=kI (Nd nd h6 i (by omega) (by omega) mem oo (by omega) (lh:=lh) (x36 _ _ gd) (x06 _ _ ra.1) ((x5'.trans x6') _ _ gn) (fun p h'=>p=.bl true/\Ext h6' h') fun h' x'=>⟨rfl,x'⟩);obtain ⟨p8,h8,e8,rfl,x8'⟩:=kI (Qw nd h0 h6 i lR lD mem ((x06.trans x7') _ _ gh) ((x36.trans x7') _ _ gd) (ra.ext (x06.trans x7')) (fun p h'=>p=.bl true/\Ext h7 h') fun h' x'=>⟨rfl,x'⟩);generalize bnd hs D=M at e7 e8;simp [e7,e8];exact k _ _ _ _ _ (x06.trans (x7'.trans x8'))
theorem Qz {δ:Ev} {h h1:PH} {js:List (Option Nat)} {tg:Mg} {elt:Me} {g:PH->Bool} {α:Type} {mi:Mi} {ys:List α} {emb:α->PV} {Q:PV->PH->Prop} (G:α->MO) (e:mi δ h=.ok ⟨ys.map emb,g⟩ h1) (hg:∀ h,Ext h1 h->g h=true) (hz:ys.length<=16777216)
  (step:∀ y∈ys,∃ δ1,tg (emb y) (bT js δ)=some δ1/\∀ h,Ext h1 h->∃ n h',elt δ1 h=.ok (.ref n) h'/\Ext h h'/\h.length<=n/\h'[n]?=some (G y))
  (k:∀ l h' (zs:List (α×Nat)),Ext h1 h'->h1.length<=l->zs.map (·.1)=ys->(zs.map (·.2)).Nodup->h'[l]?=some (.lst (zs.map fun z=>PV.ref z.2))->(∀ z∈zs,l < z.2/\h'[z.2]?=some (G z.1))->Q (.ref l) h'):(aY js mi tg dJ elt δ h).W Q:=by
 unfold aY;rw [e,Rs.bind_ok];refine mJ (fun i h'=>Ext h1 h'/\∃ zs:List (α×Nat),zs.map (·.1)=ys.take i/\(zs.map (·.2)).Nodup/\h'[h1.length]?=some (.lst (zs.map fun z=>PV.ref z.2))/\∀ z∈zs,h1.length < z.2/\h'[z.2]?=some (G z.1)) (ys.map emb) 0 _ ⟨Ext.app _ _,[],by simp,by simp,by simp,fun z hz=>by simp at hz⟩ (fun i x h' _ hx hi=>?_) (fun h' hi=>?_)
 ·obtain ⟨x1,zs,ez,nd,g1,oz⟩:=hi;have hx:(ys.map emb)[i]?=some x:=by simpa using hx
  rw [au] at hx;obtain ⟨y,hy,rfl⟩:=a7.mp hx;have hil:=(ab.mp hy).1;obtain ⟨δ1,ht,hs⟩:=step y (cg hy);have htk:ys.take (i+1)=ys.take i++[y]:=by rw [g9,hy]; rfl
  refine ⟨hg _ x1,δ1,ht,?_⟩;have hY:dJ δ1 h'=.ok true h':=rfl;rw [hY,iE,if_pos rfl];obtain ⟨n,h2,e2,x2,ln,gn⟩:=hs h' x1;have lz:zs.length<=i:=by
   have:=congrArg List.length ez;rw [ae,d9] at this;omega
  have l1:h1.length < h'.length:=(ab.mp g1).1;rw [e2,iE];refine ⟨_,x2 _ _ g1,by rw [ae]; omega,(x1.trans x2).setN (ai _),zs++[(y,n)],by rw [cz,ez,htk]; rfl,?_,by rw [dR (x2 _ _ g1),cz]; rfl,fun z hz=>?_⟩
  ·rw [cz,i4];refine ⟨nd,by simp,fun a ha b hb=>?_⟩;obtain ⟨z,hz,rfl⟩:=aq.mp ha;simp at hb;subst hb;have:=(ab.mp (oz z hz).2).1;omega
  ·rcases bj.mp hz with q | q
   ·obtain ⟨a,b⟩:=oz z q;exact ⟨a,by rw [bf (by omega)]; exact x2 _ _ b⟩
   ·simp at q;subst q;exact ⟨by omega,by rw [bf (by omega)]; exact gn⟩
 ·obtain ⟨x1,zs,ez,nd,g1,oz⟩:=hi;rw [Nat.zero_add,ae,iu] at ez;exact ⟨hg _ x1,k _ _ zs x1 (ai _) ez nd g1 oz⟩
structure Hm (hs:List Str) (hB:PH) (lr lm q:Nat) (R:List Row) (T:List Int) (Ms:List (Cnt×Nat)) (h:PH):Prop where
 x:Ext hB h
 i:HS hs R T
 lR:R.length<=q
 ne:∃ M m,Ms=M++[m]/\∀ v,v < hs.length->(bU m.1 v).getD v 0=T.getD v 0
 gm:h[lm]?=some (.lst (Ms.map fun m=>PV.ref m.2))
 lM:Ms.length=q+1
 ra:RAt h lr R
 mo:∀ m∈Ms,MOk hs R T m.1
 ma:∀ m∈Ms,MAt h m.2 m.1
 rN:∀ z∈R,z.r≠lr/\z.r≠lm
 mN:∀ m∈Ms,(m.2≠lr/\m.2≠lm)/\∀ p∈m.1,p.2≠lr/\p.2≠lm
 b:hB.length<=lr/\hB.length<=lm/\lr≠lm
theorem MOk.up {hs:List Str} {R R':List Row} {T T':List Int} {m:Cnt} (up:∀ c,VOk hs R T c->VOk hs R' T' c) (o:MOk hs R T m):MOk hs R' T' m:=⟨o.len,fun p hp=>up _ (o.vo p hp),o.own⟩
theorem QA {hs:List Str} (nd:hs.Nodup) (h0:hs≠[]) (h6:hs.length<=6) {hB h:PH} {lr lm lh q:Nat} {R:List Row} {T:List Int} {Ms:List (Cnt×Nat)} (t:Hm hs hB lr lm q R T Ms h) (hq:q<=900) (gh:hB[lh]?=some (.lst (hs.map PV.str))) (c:Int) (x0 x1 x6 x7 x8 x9 x10 x11:Option PV) (E:FE)
  (k:∀ R' T' Ms' h',Hm hs hB lr lm (q+1) R' T' Ms' h'->(∀ n o,n≠lr->n≠lm->h[n]?=some o->h'[n]?=some o)->E.nx [x0,x1,some (.ref lh),some (.ref lr),some (.ref lm),some (.int c),x6,x7,x8,x9,x10,x11] h'):
  (C5 [x0,x1,some (.ref lh),some (.ref lr),some (.ref lm),some (.int c),x6,x7,x8,x9,x10,x11] h).W E:=by
 unfold C5;obtain ⟨M,m,eM,tp⟩:=t.ne;have hm:m∈Ms:=by rw [eM]; simp
 have il:=fA t.gm;have vl:vIx (.ref lm) (.int (-1)) h=.ok (.ref m.2) h:=by
  have e:atI (Ms.map fun m=>PV.ref m.2) (-1)=some (.ref m.2):=by rw [eM,cz]; exact LW
  rw [hW t.gm,e];rfl
 have lmh:lm < h.length:=(ab.mp t.gm).1;have lrh:lr < h.length:=(ab.mp t.ra.1).1;obtain ⟨p,h2,e2,R',T',m',r',nx,rfl⟩:=kI (Qs nd h0 h6 t.i (by have:=t.lR; omega) (mr:=m.2) (t.mo m hm) tp c (N:=fun n=>n≠lr/\n≠lm) (fun n hn=>⟨by omega,by omega⟩) (fun z=>z.1 rfl) t.ra (t.ma m hm) t.rN (t.mN m hm) (t.x _ _ gh) (fun p h'=>∃ R' T' m' r',Nx hs R T lr (fun n=>n≠lr/\n≠lm) h R' T' m' r' h'/\p=.ref r') fun R' T' m' r' h' nx=>⟨R',T',m',r',nx,rfl⟩);have gm2:=nx.kp _ _ (j5 t.b.2.2) t.gm;have ap:=gM (p:=.ref r') gm2 (by rw [ae,t.lM]; omega);simp [il,vl,e2,ap];have kp:∀ n o,n≠lr->n≠lm->h[n]?=some o->(h2.set lm (.lst ((Ms.map fun m=>PV.ref m.2)++[.ref r'])))[n]?=some o:=fun n o a b e=>by
  rw [bf (j5 b)]; exact nx.kp n o a e
 have kp2:∀ n o,n≠lm->h2[n]?=some o->(h2.set lm (.lst ((Ms.map fun m=>PV.ref m.2)++[.ref r'])))[n]?=some o:=fun n o b e=>by
  rw [bf (j5 b)]; exact e
 refine k R' T' (Ms++[(m',r')]) _ ⟨fun n o e=>?_,nx.hi,by have:=nx.lR; have:=t.lR; omega,⟨Ms,(m',r'),rfl,nx.tp⟩,by rw [dR gm2,cz]; rfl,by rw [d7,t.lM]; rfl,⟨kp2 _ _ t.b.2.2 nx.ra.1,fun z hz=>kp2 _ _ (nx.rN z hz).2 (nx.ra.2 z hz)⟩,fun z hz=>?_,fun z hz=>?_,nx.rN,fun z hz=>?_,t.b⟩ kp
 ·have hn:=(ab.mp e).1;have:=t.b;exact kp n o (by omega) (by omega) (t.x _ _ e)
 ·rcases bj.mp hz with q | q
  ·exact (t.mo z q).up nx.up
  ·simp at q;subst q;exact nx.mo
 ·rcases bj.mp hz with q | q
  ·have a:=t.ma z q;have b:=t.mN z q;exact ⟨kp _ _ b.1.1 b.1.2 a.1,fun p hp=>kp _ _ (b.2 p hp).1 (b.2 p hp).2 (a.2 p hp)⟩
  ·simp at q;subst q;exact ⟨kp2 _ _ nx.mN.1.2 nx.ma.1,fun p hp=>kp2 _ _ (nx.mN.2 p hp).2 (nx.ma.2 p hp)⟩
 ·rcases bj.mp hz with q | q
  ·exact t.mN z q
  ·simp at q;subst q;exact nx.mN
theorem main (ns:List Int) (hl:ns.length<=63):∃ h,ME [.fl (ns.map PV.int)] []=.ok (.bl true) h:=by
 have w:(ME [.fl (ns.map PV.int)] []).W fun p _=>p=.bl true:=by
  refine eK ?_;unfold MD;rw [show List.map some [PV.fl (ns.map PV.int)]++cm (12 - [PV.fl (ns.map PV.int)].length) none=[some (.fl (ns.map PV.int)),none,none,none,none,none,none,none,none,none,none,none] from rfl]
  rw [aL];simp;refine now ?_;rw [aL];obtain ⟨c,hif⟩:∃ c:Int,∀ E:FE,E.nx [some (.fl (ns.map PV.int)),some (.int c),none,none,none,none,none,none,none,none,none,none] []->(iD (bI (aD vGt (mCB gX (aB (mV 0) aI)) (mC (.int 0)))) (bO 1 (aD vAt (mV 0) (mC (.int 0)))) kG [some (.fl (ns.map PV.int)),some (.int 0),none,none,none,none,none,none,none,none,none,none] []).W E:=by
   by_cases e:0 < ns.length
   ·obtain ⟨c,hc⟩:∃ c,atI (ns.map PV.int) 0=some (.int c):=⟨ns[0],nX (i:=0) (by rw [au,iq e]; rfl)⟩;exact ⟨c,fun E k=>by simp [e,hc]; exact k⟩
   ·exact ⟨0,fun E k=>by simp [e]; exact k⟩
  refine hif _ ?_;refine now ?_;rw [aL];simp;refine N6 c [] _ fun hs lh hB x1 b1 hn nd gh=>?_;have h0:hs≠[]:=fun z=>by rw [z] at hn; simp at hn
  have h6:=hn.2;clear x1 b1;refine now ?_;rw [aL];simp;have xr:Ext hB (hB++[MO.lst []]):=Ext.app _ _;have gr:(hB++[MO.lst []])[hB.length]?=some (.lst (([]:List Row).map rwV)):=aK;have lr1:hB.length < (hB++[MO.lst []]).length:=(ab.mp gr).1;generalize hB++[MO.lst []]=h1 at xr gr lr1;generalize elr:hB.length=lr at gr lr1;refine now ?_;rw [aL,nM];have gh1:=xr _ _ gh;have w0:(aY [none,some 2] (aX (mV 2)) (gN 0) dJ (aY [none] (aX (mV 1)) (gN 0) dJ (mC (.int 0))) [some (.fl (ns.map PV.int)),some (.int c),some (.ref lh),some (.ref lr),none,none,none,none,none,none,none,none] h1).W fun p h2=>∃ la m,p=.ref la/\Ext h1 h2/\h1.length<=la/\MAt h2 la m/\(∀ p∈m,h1.length<=p.2)/\m.length=hs.length/\∀ p∈m,p.1=cm hs.length 0:=by
   refine Qz (h1:=h1) (ys:=hs) (emb:=PV.str) (g:=nH lh (hs.map PV.str)) (fun _=>.lst ((cm hs.length (0:Int)).map PV.int)) (cZ (by simp) gh1) (cK gh1) (by omega) (fun y _=>⟨[some (.str y),some (.ref lh)],by simp [bT],fun h2 x2=>?_⟩) fun la hA zs xA bA ez ndz gA oz=>?_
   ·have hc:=cE (m:=mV 1) (n:=lh) (js:=[none]) (tg:=gN 0) (tst:=dJ) (elt:=mC (.int 0)) (δ:=[some (.str y),some (.ref lh)]) (h:=h2) (h1:=h2) (ys:=hs) (emb:=PV.str)
     (fun _=>some (.int 0)) (by simp) (x2 _ _ gh1) (by omega) (fun z _=>⟨[some (.str z)],by simp [bT],fun h' _=>⟨rfl,by simp⟩⟩)
    have em:hs.filterMap (fun _=>some (PV.int 0))=(cm hs.length (0:Int)).map PV.int:=by
     rw [filterMap_some (fun _=>PV.int 0) hs,List.map_const',List.map_replicate]
    rw [em] at hc;exact ⟨_,_,hc,Ext.app _ _,ai _,aK⟩
   ·refine ⟨la,zs.map fun z=>(cm hs.length (0:Int),z.2),rfl,xA,bA,⟨by rw [gA,cj]; rfl,fun p hp=>?_⟩,fun p hp=>?_,by rw [ae,<- ez,ae],fun p hp=>?_⟩
    ·obtain ⟨z,hz,rfl⟩:=aq.mp hp;exact (oz z hz).2
    ·obtain ⟨z,hz,rfl⟩:=aq.mp hp;have:=(oz z hz).1
     show h1.length<=z.2
     omega
    ·obtain ⟨z,hz,rfl⟩:=aq.mp hp;rfl
  obtain ⟨p2,h2,e2,la,m,rfl,x2,bla,ma,bm,lm0,zm⟩:=kI w0;simp [e2];have x3:Ext h2 (h2++[MO.lst [PV.ref la]]):=Ext.app _ _;have g3:(h2++[MO.lst [PV.ref la]])[h2.length]?=some (.lst [PV.ref la]):=aK;have lah:la < h2.length:=(ab.mp ma.1).1;have lpm:∀ p∈m,p.2 < h2.length:=fun p hp=>(ab.mp (ma.2 p hp)).1;have l12:=x2.len;generalize h2++[MO.lst [PV.ref la]]=h3 at x3 g3;have l13:=(x2.trans x3).len;generalize elm:h2.length=lm at g3 lah lpm l12;have zr:∀ w,(cm hs.length (0:Int)).getD w 0=0:=fun w=>by
   by_cases hw:w < hs.length
   ·simp [hw]
   ·simp [hw]
  have zc:∀ w,w < hs.length->bU m w=cm hs.length 0:=fun w hw=>zm _ (xZ (by rw [lm0]; exact hw));have vo0:VOk hs [] (cm hs.length 0) (cm hs.length 0):=⟨by simp,fun v=>by rw [zr v]; exact i8 _,fun v _=>i8 _,fun z hz=>by simp at hz⟩;have t0:Hm hs hB lr lm 0 [] (cm hs.length 0) [(m,la)] h3:=by
   refine ⟨xr.trans (x2.trans x3),⟨fun z hz=>by simp at hz,m5,by simp⟩,by simp,⟨[],(m,la),rfl,fun v hv=>by rw [zc v hv]⟩,g3,rfl,⟨(x2.trans x3) _ _ gr,fun z hz=>by simp at hz⟩,fun z hz=>?_,fun z hz=>?_,fun z hz=>by simp at hz,fun z hz=>?_,by omega,by omega,by omega⟩
   ·simp at hz;subst hz;exact ⟨lm0,fun p hp=>by rw [zm p hp]; exact vo0,fun w v hw hv=>by rw [zc w hw,zc v hv]; exact i8 _⟩
   ·simp at hz;subst hz;exact ⟨x3 _ _ ma.1,fun p hp=>x3 _ _ (ma.2 p hp)⟩
   ·simp at hz;subst hz;exact ⟨⟨by show la≠lr; omega,by show la≠lm; omega⟩,fun p hp=>by have:=bm p hp; have:=lpm p hp; exact ⟨by omega,by omega⟩⟩
  generalize [(m,la)]=M0 at t0;generalize ([]:List Row)=R0 at t0;generalize cm hs.length (0:Int)=T0 at t0;clear e2 ma zm zc vo0 zr bm lpm w0 gr gh1;refine now ?_;rw [aL];have ec:∃ cs:List Int,cs.length<=50/\iT (ns.map PV.int) (some 1) (some 51)=cs.map PV.int:=by
   refine ⟨iT ns (some 1) (some 51),?_,by unfold iT; rw [ae,<- List.map_drop,<- List.map_take]⟩;unfold iT;rw [d9];have e1:HT.sIx ns.length 0 (some (1:Int))=min 1 ns.length:=rfl;have e2:HT.sIx ns.length ns.length (some (51:Int))=min 51 ns.length:=rfl;rw [e1,e2];omega
  obtain ⟨cs,lcs,ecs⟩:=ec;have xs:Ext h3 (h3++[MO.lst (cs.map PV.int)]):=Ext.app _ _;have gs:(h3++[MO.lst (cs.map PV.int)])[h3.length]?=some (.lst (cs.map PV.int)):=aK;have ls1:h3.length≠lr:=by have:=(ab.mp t0.ra.1).1; omega
  have ls2:h3.length≠lm:=by have:=(ab.mp t0.gm).1; omega
  have t1:Hm hs hB lr lm 0 R0 T0 M0 (h3++[MO.lst (cs.map PV.int)]):=⟨t0.x.trans xs,t0.i,t0.lR,t0.ne,xs _ _ t0.gm,t0.lM,t0.ra.ext xs,t0.mo,fun z hz=>⟨xs _ _ (t0.ma z hz).1,fun p hp=>xs _ _ ((t0.ma z hz).2 p hp)⟩,t0.rN,t0.mN,t0.b⟩;have esl:mSl (mV 0) (mP (mC (.int 1))) (mP (mC (.int 51))) [some (.fl (ns.map PV.int)),some (.int c),some (.ref lh),some (.ref lr),some (.ref lm),none,none,none,none,none,none,none] h3=.ok (.ref h3.length) (h3++[MO.lst (cs.map PV.int)]):=by
   simp [ecs]
  generalize h3++[MO.lst (cs.map PV.int)]=h4 at esl gs t1;generalize h3.length=ls at esl gs ls1 ls2;refine oC (n:=ls) (xs:=cs.map PV.int) (h1:=h4) (fun q δ h'=>(∃ R T Ms,Hm hs hB lr lm q R T Ms h')/\h'[ls]?=some (.lst (cs.map PV.int))/\∃ x5,δ=[some (.fl (ns.map PV.int)),some (.int c),some (.ref lh),some (.ref lr),some (.ref lm),x5,none,none,none,none,none,none]) esl gs ⟨⟨R0,T0,M0,t1⟩,gs,_,rfl⟩ (fun q δ h' _ z=>z.2.1) ?_ ?_
  ·rintro q y δ h' hy ⟨⟨R,T,Ms,t⟩,g',x5,rfl⟩;have hq:=(ab.mp hy).1;rw [ae] at hq;rw [au] at hy;obtain ⟨cc,hc,rfl⟩:=a7.mp hy;exact ⟨_,rfl,QA nd h0 h6 t (by omega) gh cc _ _ _ _ _ _ _ _ _ fun R' T' Ms' h'' t' kp=>⟨⟨R',T',Ms',t'⟩,kp _ _ ls1 ls2 g',_,rfl⟩⟩
  ·rintro δ h' ⟨⟨R,T,Ms,t⟩,g',x5,rfl⟩;have lR:=t.lR;have lM:=t.lM;rw [ae] at lR lM;refine now ?_;rw [aL];obtain ⟨m1,hm1,em1⟩:=pick (e:=fun m:Cnt×Nat=>PV.ref m.2) (n:=Ms.length) rfl (by omega) (c / 7);have hlv:=iV t.gm;rw [ae] at hlv;have vz:vIx (.ref lm) (.int (c / 7 % (Ms.length:Int))) h'=.ok (.ref m1.2) h':=by rw [hW t.gm,em1]; rfl
   have pos:(0:Int) < (Ms.length:Int):=by omega
   generalize ((Ms.length:Nat):Int)=L at hlv vz pos;simp (disch:=omega) [hlv,vz];refine now ?_;rw [aL];have ghh:=t.x _ _ gh;have hlh:=iV ghh;rw [ae] at hlh;refine LX (j:=(hs.length:Int)) (fun q δ h''=>Ext h' h''/\∃ x7 x8 x9 x10 x11,δ=[some (.fl (ns.map PV.int)),some (.int c),some (.ref lh),some (.ref lr),some (.ref lm),x5,some (.ref m1.2),x7,x8,x9,x10,x11]) (by simp [hlh]) (by omega) ⟨Ext.refl _,_,_,_,_,_,rfl⟩ ?_ ?_
   ·rintro q δ h'' hq ⟨y1,x7,x8,x9,x10,x11,rfl⟩;have a:=t.ma m1 hm1;exact Qy nd h0 h6 t.i (by omega) (t.mo m1 hm1) (by omega) (y1 _ _ ghh) (t.ra.ext y1) ⟨y1 _ _ a.1,fun p hp=>y1 _ _ (a.2 p hp)⟩ _ _ _ _ _ _ _ _ _ fun h5 y8 y9 y10 y11 x5'=>⟨y1.trans x5',_,_,_,_,_,rfl⟩
   ·rintro δ h'' ⟨y1,x7,x8,x9,x10,x11,rfl⟩;refine now ?_;simp
 obtain ⟨p,h,e,rfl⟩:=kI w;exact ⟨h,e⟩
end K79
namespace K79
open PySem L2
def top (i:Nat):Stmt:=PySem.Challenge.pw_copymeet_k79_whole_sunk_is_seen_by_all.main.body.getD i (.Pass ⟨0,0,0,0⟩)
abbrev bsL:List Str:=["range","max","sum","min","dict","sorted","tuple","all","len","list"]
abbrev cC (w:World) (K:af) (cl:Str->Option Addr):MC:=⟨K,cl,bsL,fun _ _ _=>False,w⟩
abbrev mT:Stmt:=top 22
theorem jB:aV ["_law_cell","_law_size","_law_at","_law_found","_law_k","_law_letter"] ["_law_cell"] (aE mT):=⟨rfl,rfl,rfl,by decide +kernel,rfl,by decide +kernel,by decide +kernel⟩
abbrev dH:Stmt:=top 14
theorem Cm:aV ["deed"] ["deed"] (aE dH):=⟨rfl,rfl,rfl,by decide +kernel,rfl,by decide +kernel,by decide +kernel⟩
abbrev fW:Stmt:=top 15
theorem Gd:aV ["hand","deeds"] ["hand","deeds"] (aE fW):=⟨rfl,rfl,rfl,by decide +kernel,rfl,by decide +kernel,by decide +kernel⟩
abbrev qU:List Str:=["deed","hand"]
theorem zP:(qU).Nodup:=by decide +kernel
abbrev mU:Stmt:=top 4
theorem Nf:aV ["deed"] ["deed"] (aE mU):=⟨rfl,rfl,rfl,by decide +kernel,rfl,by decide +kernel,by decide +kernel⟩
abbrev yA:List Str:=["pair"]
theorem Eb:(yA).Nodup:=by decide +kernel
abbrev mW:Stmt:=top 17
theorem yB:aV ["hands","deeds","settles","lasts"] ["hands","deeds"] (aE mW):=⟨rfl,rfl,rfl,by decide +kernel,rfl,by decide +kernel,by decide +kernel⟩
abbrev yC:List Str:=["deed"]
theorem Ec:(yC).Nodup:=by decide +kernel
abbrev yD:List Str:=["hand","settles"]
theorem Ed:(yD).Nodup:=by decide +kernel
abbrev yE:List Str:=["deed"]
theorem Ee:(yE).Nodup:=by decide +kernel
abbrev jC:Stmt:=top 2
theorem mX:aV ["one","other","numbers","hand","n"] ["one","other"] (aE jC):=⟨rfl,rfl,rfl,by decide +kernel,rfl,by decide +kernel,by decide +kernel⟩
abbrev fX:Stmt:=top 3
theorem Ge:aV ["seen","name"] ["seen","name"] (aE fX):=⟨rfl,rfl,rfl,by decide +kernel,rfl,by decide +kernel,by decide +kernel⟩
abbrev mY:Stmt:=top 16
theorem Ef:aV ["hand","deeds","last"] ["hand","deeds"] (aE mY):=⟨rfl,rfl,rfl,by decide +kernel,rfl,by decide +kernel,by decide +kernel⟩
abbrev sU:Stmt:=top 5
theorem Cn:aV ["deed","hand","n"] ["deed"] (aE sU):=⟨rfl,rfl,rfl,by decide +kernel,rfl,by decide +kernel,by decide +kernel⟩
abbrev eO:Stmt:=top 7
theorem lV:aV ["deeds","by_name","deed"] ["deeds"] (aE eO):=⟨rfl,rfl,rfl,by decide +kernel,rfl,by decide +kernel,by decide +kernel⟩
abbrev jD:Stmt:=top 1
theorem sV:aV ["seen","name","hand","n"] ["seen","name"] (aE jD):=⟨rfl,rfl,rfl,by decide +kernel,rfl,by decide +kernel,by decide +kernel⟩
abbrev sW:Stmt:=top 18
theorem vG:aV ["hands","deeds","highest","low","seens"] ["hands","deeds"] (aE sW):=⟨rfl,rfl,rfl,by decide +kernel,rfl,by decide +kernel,by decide +kernel⟩
abbrev AR:List Str:=["deed","highest"]
theorem Gf:(AR).Nodup:=by decide +kernel
abbrev AS:List Str:=["hand","deeds"]
theorem Gg:(AS).Nodup:=by decide +kernel
abbrev AU:List Str:=["name","seens"]
theorem Gh:(AU).Nodup:=by decide +kernel
abbrev AV:List Str:=["seen","name"]
theorem Gi:(AV).Nodup:=by decide +kernel
abbrev sX:Stmt:=top 23
theorem QB:aV ["_law_hands_here","_law_counts"] ["_law_hands_here","_law_counts"] (aE sX):=⟨rfl,rfl,rfl,by decide +kernel,rfl,by decide +kernel,by decide +kernel⟩
abbrev AW:List Str:=["_law_k","_law_hands_here","_law_counts"]
theorem Gj:(AW).Nodup:=by decide +kernel
abbrev mZ:Stmt:=top 21
theorem Eg:aV ["_law_cell","_law_k","_law_number"] ["_law_cell","_law_k"] (aE mZ):=⟨rfl,rfl,rfl,by decide +kernel,rfl,by decide +kernel,by decide +kernel⟩
abbrev AX:Stmt:=top 24
theorem Gk:aV ["_law_way","_law_many","_law_cell","_law_number","_law_first"] ["_law_way","_law_many","_law_cell"] (aE AX):=⟨rfl,rfl,rfl,by decide +kernel,rfl,by decide +kernel,by decide +kernel⟩
abbrev sY:Stmt:=top 25
theorem dX:aV ["_law_rows","_law_all_counts","_law_hands_here","_law_cell","_law_who","_law_counts","_law_way","_law_name","_law_deed","_law_other","_law_far","_law_heard"] ["_law_rows","_law_all_counts","_law_hands_here","_law_cell"] (aE sY):=⟨rfl,rfl,rfl,by decide +kernel,rfl,by decide +kernel,by decide +kernel⟩
abbrev AY:List Str:=["_law_row","_law_hands_here","_law_other"]
theorem Gm:(AY).Nodup:=by decide +kernel
abbrev AZ:List Str:=["_law_k","_law_counts","_law_far"]
theorem Gn:(AZ).Nodup:=by decide +kernel
abbrev nA:Stmt:=top 26
theorem Ng:aV ["_law_deeds","_law_hands_here","_law_counts"] ["_law_deeds","_law_hands_here","_law_counts"] (aE nA):=⟨rfl,rfl,rfl,by decide +kernel,rfl,by decide +kernel,by decide +kernel⟩
abbrev yF:List Str:=["_law_deed","_law_counts","_law_hands_here"]
theorem Eh:(yF).Nodup:=by decide +kernel
abbrev nB:Stmt:=top 6
theorem Nh:aV ["one","other"] ["one","other"] (aE nB):=⟨rfl,rfl,rfl,by decide +kernel,rfl,by decide +kernel,by decide +kernel⟩
abbrev nC:Stmt:=top 27
theorem qV:aV ["_law_hands_here","_law_deeds","_law_rows","_law_names","_law_top","_law_found","_law_deed","_law_counts"] ["_law_hands_here","_law_deeds","_law_rows","_law_names","_law_top"] (aE nC):=⟨rfl,rfl,rfl,by decide +kernel,rfl,by decide +kernel,by decide +kernel⟩
abbrev yG:List Str:=["_law_deed","_law_names"]
theorem Ei:(yG).Nodup:=by decide +kernel
abbrev yH:List Str:=["_law_name","_law_deed"]
theorem Ej:(yH).Nodup:=by decide +kernel
abbrev yI:List Str:=["_law_one","_law_deed"]
theorem Ek:(yI).Nodup:=by decide +kernel
abbrev fY:Stmt:=top 9
theorem Gp:aV ["deed"] ["deed"] (aE fY):=⟨rfl,rfl,rfl,by decide +kernel,rfl,by decide +kernel,by decide +kernel⟩
abbrev eP:Stmt:=top 10
theorem fK:aV ["n","backs","back","word","first","last"] ["n","backs"] (aE eP):=⟨rfl,rfl,rfl,by decide +kernel,rfl,by decide +kernel,by decide +kernel⟩
abbrev jE:Stmt:=top 11
theorem dI:aV ["deeds","taken","backs","deed","hand","n","word","by"] ["deeds"] (aE jE):=⟨rfl,rfl,rfl,by decide +kernel,rfl,by decide +kernel,by decide +kernel⟩
abbrev eR:Stmt:=top 12
theorem lW:aV ["deeds","ordered","taken"] ["deeds"] (aE eR):=⟨rfl,rfl,rfl,by decide +kernel,rfl,by decide +kernel,by decide +kernel⟩
abbrev nO:List Str:=["deed","taken"]
theorem yJ:(nO).Nodup:=by decide +kernel
abbrev fZ:Stmt:=top 19
theorem yK:aV ["hands","deeds","highest"] ["hands","deeds"] (aE fZ):=⟨rfl,rfl,rfl,by decide +kernel,rfl,by decide +kernel,by decide +kernel⟩
abbrev qW:List Str:=["deed","highest"]
theorem zQ:(qW).Nodup:=by decide +kernel
abbrev cL:Stmt:=top 28
theorem cF:aV ["_law_hands_here","_law_deeds","_law_rows","_law_top","_law_due","_law_backs","_law_deed","_law_counts","_law_more"] ["_law_hands_here","_law_deeds","_law_rows","_law_top"] (aE cL):=⟨rfl,rfl,rfl,by decide +kernel,rfl,by decide +kernel,by decide +kernel⟩
abbrev jF:List Str:=["_law_row","_law_deeds"]
theorem qX:(jF).Nodup:=by decide +kernel
abbrev jG:List Str:=["_law_row","_law_deeds","_law_counts","_law_hands_here"]
theorem qY:(jG).Nodup:=by decide +kernel
abbrev jH:List Str:=["_law_one","_law_top"]
theorem qZ:(jH).Nodup:=by decide +kernel
abbrev rA:Stmt:=top 29
theorem eU:aV ["_law_script","_law_cell","_law_hands_here","_law_rows","_law_moments","_law_number","_law_moment","_law_who","_law_deeds","_law_names","_law_counts","_law_top"] ["_law_script"] (aE rA):=⟨rfl,rfl,rfl,by decide +kernel,rfl,by decide +kernel,by decide +kernel⟩
abbrev El:List Str:=["_law_hand","_law_hands_here"]
theorem JR:(El).Nodup:=by decide +kernel
abbrev Em:List Str:=["_law_hand"]
theorem JS:(Em).Nodup:=by decide +kernel
abbrev En:List Str:=["_law_row"]
theorem JT:(En).Nodup:=by decide +kernel
abbrev Eo:List Str:=["_law_name","_law_counts","_law_hands_here"]
theorem JU:(Eo).Nodup:=by decide +kernel
theorem rB:("range" : Str)∈bsL:=(.head _)
theorem Co:("max" : Str)∈bsL:=(.tail _ (.head _))
theorem nD:("sorted" : Str)∈bsL:=(.tail _ (.tail _ (.tail _ (.tail _ (.tail _ (.head _))))))
theorem Ep:("tuple" : Str)∈bsL:=(.tail _ (.tail _ (.tail _ (.tail _ (.tail _ (.tail _ (.head _)))))))
theorem Gq:("all" : Str)∈bsL:=(.tail _ (.tail _ (.tail _ (.tail _ (.tail _ (.tail _ (.tail _ (.head _))))))))
theorem iM:("len" : Str)∈bsL:=(.tail _ (.tail _ (.tail _ (.tail _ (.tail _ (.tail _ (.tail _ (.tail _ (.head _)))))))))
section
variable {P:Program} {w:World} {K:af} {mg:Str->Option Value} {base:Heap} {cl:Str->Option Addr}
variable (P w K mg base cl)
abbrev Er:Prop:=∃ a fd,Def K mg "_law_hands" mT a fd ["_law_cell"]/\aU P w K mg base CX0 1 a fd ["_law_cell"] (spM (cC w K cl) 1 vB)
abbrev rC:Prop:=∃ a fd,Def K mg "number_of" dH a fd ["deed"]/\aU P w K mg base CX0 1 a fd ["deed"] (spM (cC w K cl) 1 cS)
abbrev oQ:Prop:=∃ a fd,Def K mg "last_of" fW a fd ["hand","deeds"]/\aU P w K mg base CX0 4 a fd ["hand","deeds"] (spM (cC w K cl) 2 iW)
abbrev gU:Prop:=∃ a fd,Def K mg "stamp" mU a fd ["deed"]/\aU P w K mg base CX0 1 a fd ["deed"] (spM (cC w K cl) 1 dU)
abbrev rD:Prop:=∃ a fd,Def K mg "bound" mW a fd ["hands","deeds"]/\aU P w K mg base CX0 5 a fd ["hands","deeds"] (spM (cC w K cl) 2 mL)
abbrev B0:Prop:=∃ a fd,Def K mg "joined" jC a fd ["one","other"]/\aU P w K mg base CX0 1 a fd ["one","other"] (spM (cC w K cl) 2 qI)
abbrev yL:Prop:=∃ a fd,Def K mg "widened" fX a fd ["seen","name"]/\aU P w K mg base CX0 2 a fd ["seen","name"] (spM (cC w K cl) 2 mM)
abbrev Es:Prop:=∃ a fd,Def K mg "known" mY a fd ["hand","deeds"]/\aU P w K mg base CX0 5 a fd ["hand","deeds"] (spM (cC w K cl) 2 vC)
abbrev Cp:Prop:=∃ a fd,Def K mg "rank" sU a fd ["deed"]/\aU P w K mg base CX0 2 a fd ["deed"] (spM (cC w K cl) 1 sM)
abbrev lY:Prop:=∃ a fd,Def K mg "in_order" eO a fd ["deeds"]/\aU P w K mg base CX0 5 a fd ["deeds"] (spM (cC w K cl) 1 dC)
abbrev sZ:Prop:=∃ a fd,Def K mg "covers" jD a fd ["seen","name"]/\aU P w K mg base CX0 1 a fd ["seen","name"] (spM (cC w K cl) 2 fE)
abbrev II:Prop:=∃ a fd,Def K mg "sunk" sW a fd ["hands","deeds"]/\aU P w K mg base CX0 6 a fd ["hands","deeds"] (spM (cC w K cl) 2 BZ)
abbrev IJ:Prop:=∃ a fd,Def K mg "_law_seen" sX a fd ["_law_hands_here","_law_counts"]/\aU P w K mg base CX0 1 a fd ["_law_hands_here","_law_counts"] (spM (cC w K cl) 2 xO)
abbrev Et:Prop:=∃ a fd,Def K mg "_law_mixed" mZ a fd ["_law_cell","_law_k"]/\aU P w K mg base CX0 1 a fd ["_law_cell","_law_k"] (spM (cC w K cl) 2 qK)
abbrev Ni:Prop:=∃ a fd,Def K mg "_law_act" AX a fd ["_law_way","_law_many","_law_cell"]/\aU P w K mg base CX0 2 a fd ["_law_way","_law_many","_law_cell"] (spM (cC w K cl) 3 DU)
abbrev IK:Prop:=∃ a fd,Def K mg "_law_step" sY a fd ["_law_rows","_law_all_counts","_law_hands_here","_law_cell"]/\aU P w K mg base CX0 3 a fd ["_law_rows","_law_all_counts","_law_hands_here","_law_cell"] (spM (cC w K cl) 4 C1)
abbrev Eu:Prop:=∃ a fd,Def K mg "_law_taken" nA a fd ["_law_deeds","_law_hands_here","_law_counts"]/\aU P w K mg base CX0 1 a fd ["_law_deeds","_law_hands_here","_law_counts"] (spM (cC w K cl) 3 vD)
abbrev Ew:Prop:=∃ a fd,Def K mg "ahead" nB a fd ["one","other"]/\aU P w K mg base CX0 3 a fd ["one","other"] (spM (cC w K cl) 2 qL)
abbrev Ex:Prop:=∃ a fd,Def K mg "_law_later" nC a fd ["_law_hands_here","_law_deeds","_law_rows","_law_names","_law_top"]/\aU P w K mg base CX0 4 a fd ["_law_hands_here","_law_deeds","_law_rows","_law_names","_law_top"] (spM (cC w K cl) 5 vE)
abbrev yM:Prop:=∃ a fd,Def K mg "name_of" fY a fd ["deed"]/\aU P w K mg base CX0 1 a fd ["deed"] (spM (cC w K cl) 1 iX)
abbrev uE:Prop:=∃ a fd,Def K mg "taker_of" eP a fd ["n","backs"]/\aU P w K mg base CX0 1 a fd ["n","backs"] (spM (cC w K cl) 2 jT)
abbrev B1:Prop:=∃ a fd,Def K mg "takers" jE a fd ["deeds"]/\aU P w K mg base CX0 4 a fd ["deeds"] (spM (cC w K cl) 1 qN)
abbrev uF:Prop:=∃ a fd,Def K mg "in_force" eR a fd ["deeds"]/\aU P w K mg base CX0 6 a fd ["deeds"] (spM (cC w K cl) 1 gR)
abbrev yN:Prop:=∃ a fd,Def K mg "settled" fZ a fd ["hands","deeds"]/\aU P w K mg base CX0 7 a fd ["hands","deeds"] (spM (cC w K cl) 2 fT)
abbrev lZ:Prop:=∃ a fd,Def K mg "_law_with_a_back" cL a fd ["_law_hands_here","_law_deeds","_law_rows","_law_top"]/\aU P w K mg base CX0 8 a fd ["_law_hands_here","_law_deeds","_law_rows","_law_top"] (spM (cC w K cl) 4 fB)
variable {P w K mg base cl}
theorem fN {j:Nat} {nm:Str} {st:Stmt} {f:Addr} {fd:c3} {ps:List Str} {sp:Sp} (D:Def K mg nm st f fd ps) (h:Fun K nm nm st f fd->aU P w K mg base CX0 j f fd ps sp):∃ a fd,Def K mg nm st a fd ps/\aU P w K mg base CX0 j a fd ps sp:=⟨_,_,D,h D.fn⟩
theorem Nj {f:Addr} {fd:c3} (hbn:∀ x∈bsL,mg x=none) (F:Fun K "_law_hands" "_law_hands" mT f fd):aU P w K mg base CX0 1 f fd ["_law_cell"] (spM (cC w K cl) 1 vB):=
 cH (C:=cC w K cl) (k:=0) (N:=["_law_cell","_law_size","_law_at","_law_found","_law_k","_law_letter"]) (body:=BW) (fun _ _ _ h=>h) hbn F jB fun cdv A outer s H E=>
 (aF (bJ (i:=1) jB.nd (aO cD aG (aO eC (aA 0) aG)))
 (aF (bJ (i:=2) jB.nd (aO eC (aO jX (aA 0) aG) (aA 1)))
 (aF (bJ (i:=3) jB.nd (pR aH))
 (aF (kY (BD (aC (aO cD aG (aO eC (aO jX (aA 0) aG) aG)) aH) (hb:=rB)) (aP jB.nd)
  (aF (bJ (i:=5) jB.nd (bB kR (aO eC (aO cD (aO jX (aA 0) aG) (aO HL (aA 4) (aO cD aG (aO eC (aO jX (aA 0) aG) aG)))) aG)))
  (aJ (HQ (FP eu jz j0 pU (aA 3) (aC (aO cD (aO cD (aO S7 kR (aA 2)) (aA 5)) (aO S7 kR (aO HK (aO HK (aA 1) aG) (aA 2)))) aH))))))
 (aJ (bP (aA 3)))))))
theorem Cq {f:Addr} {fd:c3} (hbn:∀ x∈bsL,mg x=none) (F:Fun K "number_of" "number_of" dH f fd):aU P w K mg base CX0 1 f fd ["deed"] (spM (cC w K cl) 1 cS):=
 cH (C:=cC w K cl) (k:=0) (N:=["deed"]) (body:=lJ) (fun _ _ _ h=>h) hbn F Cm fun cdv A outer s H E=>
 (aJ (bP (bB (bB (aA 0) aG) aG)))
theorem Gr {f:Addr} {fd:c3} (hbn:∀ x∈bsL,mg x=none) (F:Fun K "last_of" "last_of" fW f fd) (mD:rC P w K mg base cl):aU P w K mg base CX0 4 f fd ["hand","deeds"] (spM (cC w K cl) 2 iW):=
 let ⟨_,_,Ey,Ez⟩:=mD; cH (C:=cC w K cl) (k:=3) (N:=["hand","deeds"]) (body:=sJ) (fun _ _ _ h=>h) hbn F Gd fun cdv A outer s H E=>
 (aJ (bP (U2 Ey Ez (cJ (js:=[none,some 0]) (N:=qU) rfl rfl (by rfl) (bX (aA 1)) (fun _ _ _ _=>(aP zP)) (fun _ _ _ _=>(dO (bQ Bz (bB (bB (aA 0) aG) aG) (aA 1)))) (fun _ _ _ _=>(aA 0))) (hb:=Co))))
theorem Nk {f:Addr} {fd:c3} (hbn:∀ x∈bsL,mg x=none) (F:Fun K "stamp" "stamp" mU f fd):aU P w K mg base CX0 1 f fd ["deed"] (spM (cC w K cl) 1 dU):=
 cH (C:=cC w K cl) (k:=0) (N:=["deed"]) (body:=qH) (fun _ _ _ h=>h) hbn F Nf fun cdv A outer s H E=>
 (aJ (bP (aO cD aG (bR W4 PyProof.Rows.Boot.«sum» (aC (cJ (js:=[none]) (N:=yA) rfl rfl (by rfl) (bX (bB (aA 0) aG)) (fun _ _ _ _=>(aP Eb)) (fun _ _ _ _=>gL) (fun _ _ _ _=>(bB (aA 0) aG))) aH) (hb:=(.tail _ (.tail _ (.head _))))))))
theorem Nl {f:Addr} {fd:c3} (hbn:∀ x∈bsL,mg x=none) (F:Fun K "bound" "bound" mW f fd) (gE:oQ P w K mg base cl) (bZ:gU P w K mg base cl):aU P w K mg base CX0 5 f fd ["hands","deeds"] (spM (cC w K cl) 2 mL):=
 let ⟨_,_,tB,tE⟩:=gE; let ⟨_,_,dY,dZ⟩:=bZ; cH (C:=cC w K cl) (k:=4) (N:=["hands","deeds","settles","lasts"]) (body:=BX) (fun _ _ _ h=>h) hbn F yB fun cdv A outer s H E=>
 (aF (bJ (i:=2) yB.nd (cJ (js:=[none]) (N:=yC) rfl rfl (by rfl) (bX (aA 1)) (fun _ _ _ _=>(aP Ec)) (fun _ _ _ _=>(dO (bQ Bz (bB (bB (aA 0) aG) aG) kR))) (fun _ _ _ _=>(aA 0))))
 (aF (fR (i:=3) yB.nd rfl rfl (js:=[none,some 2]) (N:=yD) rfl rfl (by rfl) (bX (aA 0)) (fun _ _ _ _=>(aP Ed)) (fun _ _ _ _=>gL) (fun _ _ _ _=>(s_call tB tE (aC (aA 0) (aC (aA 1) aH)))))
 (aJ (bP (bR TU PyProof.Rows.Boot.«min» (aC (cJ (js:=[none]) (N:=yE) rfl rfl (by rfl) (bX (aA 3)) (fun _ _ _ _=>(aP Ee)) (fun _ _ _ _=>gL) (fun _ _ _ _=>(HN (bQ VC (aA 0) HH) aG (s_call dY dZ (aC (aA 0) aH))))) aH) (hb:=(.tail _ (.tail _ (.tail _ (.head _))))))))))
theorem JV {f:Addr} {fd:c3} (hbn:∀ x∈bsL,mg x=none) (F:Fun K "joined" "joined" jC f fd):aU P w K mg base CX0 1 f fd ["one","other"] (spM (cC w K cl) 2 qI):=
 cH (C:=cC w K cl) (k:=0) (N:=["one","other","numbers","hand","n"]) (body:=xK) (fun _ _ _ h=>h) hbn F mX fun cdv A outer s H E=>
 (aF (bJ (i:=2) mX.nd (pT PZ PyProof.Rows.Boot.«dict» (aC (aA 0) aH) (hb:=(.tail _ (.tail _ (.tail _ (.tail _ (.head _))))))))
 (aF (kY (bX (aA 1)) (wJ (dA (aP mX.nd) (dA (aP mX.nd) wI)))
  (aJ (xE (bR G1 PyProof.Rows.Boot.«max» (aC (aA 4) (aC (TL ix d8 PySem.F.type_dict_get Sa (aA 2) (aC (aA 3) (aC (aA 4) aH))) aH)) (hb:=Co)) (aA 2) (aA 3))))
 (aJ (bP (pT HP PyProof.Rows.Boot.«tuple» (aC (bR Dy PyProof.Rows.Boot.«sorted» (aC (S9 ix PySem.F.slot_dict_items PySem.F.type_dict_items PM (aA 2)) aH) (hb:=nD)) aH) (hb:=Ep))))))
theorem Gs {f:Addr} {fd:c3} (hbn:∀ x∈bsL,mg x=none) (F:Fun K "widened" "widened" fX f fd) (yO:B0 P w K mg base cl):aU P w K mg base CX0 2 f fd ["seen","name"] (spM (cC w K cl) 2 mM):=
 let ⟨_,_,Nm,Np⟩:=yO; cH (C:=cC w K cl) (k:=1) (N:=["seen","name"]) (body:=sL) (fun _ _ _ h=>h) hbn F Ge fun cdv A outer s H E=>
 (aJ (bP (s_call Nm Np (aC (aA 0) (aC (kU (aC (aA 1) aH)) aH)))))
theorem Nq {f:Addr} {fd:c3} (hbn:∀ x∈bsL,mg x=none) (F:Fun K "known" "known" mY f fd) (gE:oQ P w K mg base cl) (tF:yL P w K mg base cl):aU P w K mg base CX0 5 f fd ["hand","deeds"] (spM (cC w K cl) 2 vC):=
 let ⟨_,_,tB,tE⟩:=gE; let ⟨_,_,JW,JX⟩:=tF; cH (C:=cC w K cl) (k:=4) (N:=["hand","deeds","last"]) (body:=BY) (fun _ _ _ h=>h) hbn F Ef fun cdv A outer s H E=>
 (aF (bJ (i:=2) Ef.nd (s_call tB tE (aC (aA 0) (aC (aA 1) aH))))
 (aJ (bP (HN (bQ VC (aA 2) HH) (kU aH) (s_call JW JX (aC (bB (aA 2) aG) (aC (bB (aA 2) aG) aH)))))))
theorem QC {f:Addr} {fd:c3} (hbn:∀ x∈bsL,mg x=none) (F:Fun K "rank" "rank" sU f fd) (bZ:gU P w K mg base cl):aU P w K mg base CX0 2 f fd ["deed"] (spM (cC w K cl) 1 sM):=
 let ⟨_,_,dY,dZ⟩:=bZ; cH (C:=cC w K cl) (k:=1) (N:=["deed","hand","n"]) (body:=G3) (fun _ _ _ h=>h) hbn F Cn fun cdv A outer s H E=>
 (aF (LQ (bB (aA 0) aG) (wJ (dA (aP Cn.nd) (dA (aP Cn.nd) wI))))
 (aJ (bP (kU (aC (s_call dY dZ (aC (aA 0) aH)) (aC (aA 1) (aC (aA 2) aH)))))))
theorem EA {f:Addr} {fd:c3} (hbn:∀ x∈bsL,mg x=none) (F:Fun K "in_order" "in_order" eO f fd) (tG:Cp P w K mg base cl):aU P w K mg base CX0 5 f fd ["deeds"] (spM (cC w K cl) 1 dC):=
 let ⟨_,_,Cr,Cs⟩:=tG; cH (C:=cC w K cl) (k:=4) (N:=["deeds","by_name","deed"]) (body:=oJ) (fun _ _ _ h=>h) hbn F lV fun cdv A outer s H E=>
 (aF (bJ (i:=1) lV.nd BC)
 (aF (kY (bX (aA 0)) (aP lV.nd)
  (aJ (xE (aA 2) (aA 1) (bB (aA 2) aG))))
 (aJ (bP (PQ Cr Cs (S9 ix PySem.F.slot_dict_values PySem.F.type_dict_values m_values (aA 1)) (hb:=nD))))))
theorem JY {f:Addr} {fd:c3} (hbn:∀ x∈bsL,mg x=none) (F:Fun K "covers" "covers" jD f fd):aU P w K mg base CX0 1 f fd ["seen","name"] (spM (cC w K cl) 2 fE):=
 cH (C:=cC w K cl) (k:=0) (N:=["seen","name","hand","n"]) (body:=xN) (fun _ _ _ h=>h) hbn F sV fun cdv A outer s H E=>
 (aF (kY (bX (aA 0)) (wJ (dA (aP sV.nd) (dA (aP sV.nd) wI)))
  (aJ (kW (bQ Bz (aA 2) (bB (aA 1) aG))
   (aJ (bP (S3 By (bB (aA 1) aG) (aA 3))))
   dB)))
 (aJ (bP Bw)))
theorem QD {f:Addr} {fd:c3} (hbn:∀ x∈bsL,mg x=none) (F:Fun K "sunk" "sunk" sW f fd) (bZ:gU P w K mg base cl) (fP:rD P w K mg base cl) (Ct:Es P w K mg base cl) (eV:lY P w K mg base cl) (jI:sZ P w K mg base cl):aU P w K mg base CX0 6 f fd ["hands","deeds"] (spM (cC w K cl) 2 BZ):=
 let ⟨_,_,dY,dZ⟩:=bZ; let ⟨_,_,rE,rF⟩:=fP; let ⟨_,_,QE,QF⟩:=Ct; let ⟨_,_,oR,oT⟩:=eV; let ⟨_,_,yP,yQ⟩:=jI; cH (C:=cC w K cl) (k:=5) (N:=["hands","deeds","highest","low","seens"]) (body:=G4) (fun _ _ _ h=>h) hbn F vG fun cdv A outer s H E=>
 (aF (bJ (i:=2) vG.nd (s_call rE rF (aC (aA 0) (aC (aA 1) aH))))
 (aF (fR (i:=3) vG.nd rfl rfl (js:=[none,some 2]) (N:=AR) rfl rfl (by rfl) (bX (s_call oR oT (aC (aA 1) aH))) (fun _ _ _ _=>(aP Gf)) (fun _ _ _ _=>(dO (bQ By (s_call dY dZ (aC (aA 0) aH)) (aA 1)))) (fun _ _ _ _=>(bB (aA 0) aG)))
 (aF (bJ (i:=4) vG.nd (cJ (js:=[none,some 1]) (N:=AS) rfl rfl (by rfl) (bX (aA 0)) (fun _ _ _ _=>(aP Gg)) (fun _ _ _ _=>gL) (fun _ _ _ _=>(s_call QE QF (aC (aA 0) (aC (aA 1) aH))))))
 (aJ (bP (cJ (js:=[none,some 4]) (N:=AU) rfl rfl (by rfl) (bX (aA 3)) (fun _ _ _ _=>(aP Gh)) (fun _ _ _ _=>(dO (Dp (bR M8 PyProof.Rows.Boot.«all» (aC (cJ (js:=[none,some 0]) (N:=AV) rfl rfl (by rfl) (bX (aA 1)) (fun _ _ _ _=>(aP Gi)) (fun _ _ _ _=>gL) (fun _ _ _ _=>(s_call yP yQ (aC (aA 0) (aC (aA 1) aH))))) aH) (hb:=Gq))))) (fun _ _ _ _=>(aA 0))))))))
theorem QG {f:Addr} {fd:c3} (hbn:∀ x∈bsL,mg x=none) (F:Fun K "_law_seen" "_law_seen" sX f fd):aU P w K mg base CX0 1 f fd ["_law_hands_here","_law_counts"] (spM (cC w K cl) 2 xO):=
 cH (C:=cC w K cl) (k:=0) (N:=["_law_hands_here","_law_counts"]) (body:=G5) (fun _ _ _ h=>h) hbn F QB fun cdv A outer s H E=>
 (aJ (bP (pT HP PyProof.Rows.Boot.«tuple» (aC (bR Dy PyProof.Rows.Boot.«sorted» (aC (cJ (js:=[none,some 0,some 1]) (N:=AW) rfl rfl (by rfl) (BD (aC (bR nL PyProof.Rows.Boot.«len» (aC (aA 0) aH) (hb:=iM)) aH) (hb:=rB)) (fun _ _ _ _=>(aP Gj)) (fun _ _ _ _=>(dO (bQ LL (bB (aA 2) (aA 0)) aG))) (fun _ _ _ _=>(kU (aC (bB (aA 1) (aA 0)) (aC (bB (aA 2) (aA 0)) aH))))) aH) (hb:=nD)) aH) (hb:=Ep))))
theorem Nr {f:Addr} {fd:c3} (hbn:∀ x∈bsL,mg x=none) (F:Fun K "_law_mixed" "_law_mixed" mZ f fd):aU P w K mg base CX0 1 f fd ["_law_cell","_law_k"] (spM (cC w K cl) 2 qK):=
 cH (C:=cC w K cl) (k:=0) (N:=["_law_cell","_law_k","_law_number"]) (body:=C0) (fun _ _ _ h=>h) hbn F Eg fun cdv A outer s H E=>
 (aF (kW (SW.t (w_and (bQ Bz (aO eC (aA 0) aG) aG) (BA (bQ LL (aA 0) (aO LI aG aG)))))
  (aJ (bP (aO eC (aO jX (aA 0) aG) (aO LI aG aG))))
  dB)
 (aF (bJ (i:=2) Eg.nd (aO eC (aO HL (aO cD (aO cD (aA 0) (aO HL aG (aA 1))) aG) aG) aG))
 (aJ (bP (aO eC (aO HL (aA 2) (aO cD (aO jX (aA 2) aG) aG)) aG)))))
theorem Uh {f:Addr} {fd:c3} (hbn:∀ x∈bsL,mg x=none) (F:Fun K "_law_act" "_law_act" AX f fd) (Cu:Et P w K mg base cl):aU P w K mg base CX0 2 f fd ["_law_way","_law_many","_law_cell"] (spM (cC w K cl) 3 DU):=
 let ⟨_,_,QH,QI⟩:=Cu; cH (C:=cC w K cl) (k:=1) (N:=["_law_way","_law_many","_law_cell","_law_number","_law_first"]) (body:=MB) (fun _ _ _ h=>h) hbn F Gk fun cdv A outer s H E=>
 (aF (bJ (i:=3) Gk.nd (s_call QH QI (aC (aA 2) (aC aG aH))))
 (aF (kW (bQ BI (aA 0) aG)
  (aJ (bP (kU (aC kR aH))))
  dB)
 (aF (kW (SW.t (w_and (bQ Bz (aA 0) aG) (BA (bQ LL (aA 1) aG))))
  (aF (bJ (i:=4) Gk.nd (aO cD aG (aO eC (aA 3) (aA 1))))
  (aJ (bP (kU (aC kR (aC (aA 4) (aC (aO cD (aA 4) (aO eC (aO jX (aA 3) aG) (aO HK (aO cD (aA 1) aG) (aA 4)))) aH)))))))
  dB)
 (aJ (bP (kU (aC kR (aC (kU (aC kR (aC aG aH))) (aC (aO eC (aA 2) (aO LI aG aG)) aH)))))))))
theorem QJ {f:Addr} {fd:c3} (hbn:∀ x∈bsL,mg x=none) (F:Fun K "_law_step" "_law_step" sY f fd) (Gu:IJ P w K mg base cl) (Nt:Ni P w K mg base cl):aU P w K mg base CX0 3 f fd ["_law_rows","_law_all_counts","_law_hands_here","_law_cell"] (spM (cC w K cl) 4 C1):=
 let ⟨_,_,Ui,Uj⟩:=Gu; let ⟨_,_,Ww,Wx⟩:=Nt; cH (C:=cC w K cl) (k:=2) (N:=["_law_rows","_law_all_counts","_law_hands_here","_law_cell","_law_who","_law_counts","_law_way","_law_name","_law_deed","_law_other","_law_far","_law_heard"]) (body:=G6) (fun _ _ _ h=>h) hbn F dX fun cdv A outer s H E=>
 (aF (bJ (i:=4) dX.nd (aO eC (aA 3) (bR nL PyProof.Rows.Boot.«len» (aC (aA 2) aH) (hb:=iM))))
 (aF (bJ (i:=5) dX.nd (pT Tw PyProof.Rows.Boot.«list» (aC (bB (aA 1) (aA 4)) aH) (hb:=(.tail _ (.tail _ (.tail _ (.tail _ (.tail _ (.tail _ (.tail _ (.tail _ (.tail _ (.head _)))))))))))))
 (aF (bJ (i:=6) dX.nd (aO eC (aO jX (aA 3) (bR nL PyProof.Rows.Boot.«len» (aC (aA 2) aH) (hb:=iM))) aG))
 (aF (kW (bQ BI (aA 6) aG)
  (aF (bJ (i:=7) dX.nd (kU (aC (bB (aA 2) (aA 4)) (aC (aO cD (bB (aA 5) (aA 4)) aG) aH))))
  (aF (bJ (i:=8) dX.nd (kU (aC (aA 7) (aC (s_call Ui Uj (aC (aA 2) (aC (aA 5) aH))) (aC (s_call Ww Wx (aC (aA 6) (aC (bB (aA 5) (aA 4)) (aC (aO jX (aA 3) aG) aH)))) aH)))))
  (aF (xE (aO cD (bB (aA 5) (aA 4)) aG) (aA 5) (aA 4))
  (aJ (HQ (FP eu jz j0 pU (aA 0) (aC (kU (aC (aA 8) (aC (aA 5) aH))) aH)))))))
  (aF (bJ (i:=9) dX.nd (aO eC (aO cD (aO cD (aA 4) aG) (aO eC (aO jX (aA 3) aG) (bR G1 PyProof.Rows.Boot.«max» (aC aG (aC (aO HK (bR nL PyProof.Rows.Boot.«len» (aC (aA 2) aH) (hb:=iM)) aG) aH)) (hb:=Co)))) (bR nL PyProof.Rows.Boot.«len» (aC (aA 2) aH) (hb:=iM))))
  (aF (bJ (i:=10) dX.nd (bB (aA 1) (aA 9)))
  (aF (fR (i:=11) dX.nd rfl rfl (js:=[none,some 2,some 9]) (N:=AY) rfl rfl (by rfl) (bX (aA 0)) (fun _ _ _ _=>(aP Gm)) (fun _ _ _ _=>(dO (bQ Bz (bB (bB (bB (aA 0) aG) aG) aG) (bB (aA 1) (aA 2))))) (fun _ _ _ _=>(aA 0)))
  (aF (kW (SW.t (w_and (bQ BI (aA 6) aG) (BA (bQ U1 (aA 11) (pR aH)))))
   (aJ (bJ (i:=10) dX.nd (bB (bB (aA 11) (aO eC (aO jX (aA 3) aG) (bR nL PyProof.Rows.Boot.«len» (aC (aA 11) aH) (hb:=iM)))) aG)))
   dB)
  (aJ (bJ (i:=5) dX.nd (cJ (js:=[none,some 5,some 10]) (N:=AZ) rfl rfl (by rfl) (BD (aC (bR nL PyProof.Rows.Boot.«len» (aC (aA 2) aH) (hb:=iM)) aH) (hb:=rB)) (fun _ _ _ _=>(aP Gn)) (fun _ _ _ _=>gL) (fun _ _ _ _=>(bR G1 PyProof.Rows.Boot.«max» (aC (bB (aA 1) (aA 0)) (aC (bB (aA 2) (aA 0)) aH)) (hb:=Co)))))))))))
 (aJ (bP (aO cD (aO cD (Pp (aA 1) FO (wG (aA 4))) (pR (aC (aA 5) aH))) (Pp (aA 1) (wG (aO cD (aA 4) aG)) FO))))))))
theorem Nu {f:Addr} {fd:c3} (hbn:∀ x∈bsL,mg x=none) (F:Fun K "_law_taken" "_law_taken" nA f fd):aU P w K mg base CX0 1 f fd ["_law_deeds","_law_hands_here","_law_counts"] (spM (cC w K cl) 3 vD):=
 cH (C:=cC w K cl) (k:=0) (N:=["_law_deeds","_law_hands_here","_law_counts"]) (body:=C2) (fun _ _ _ h=>h) hbn F Ng fun cdv A outer s H E=>
 (aJ (bP (cJ (js:=[none,some 2,some 1]) (N:=yF) rfl rfl (by rfl) (bX (aA 0)) (fun _ _ _ _=>(aP Eh)) (fun _ _ _ _=>(dO (bQ By (bB (bB (aA 0) aG) aG) (bB (aA 1) (FP eu PySem.F.slot_list_index PySem.F.type_list_index BV (aA 2) (aC (bB (bB (aA 0) aG) aG) aH)))))) (fun _ _ _ _=>(aA 0)))))
theorem Nv {f:Addr} {fd:c3} (hbn:∀ x∈bsL,mg x=none) (F:Fun K "ahead" "ahead" nB f fd) (tG:Cp P w K mg base cl):aU P w K mg base CX0 3 f fd ["one","other"] (spM (cC w K cl) 2 qL):=
 let ⟨_,_,Cr,Cs⟩:=tG; cH (C:=cC w K cl) (k:=2) (N:=["one","other"]) (body:=C3) (fun _ _ _ h=>h) hbn F Nh fun cdv A outer s H E=>
 (aJ (bP (S3 BI (s_call Cr Cs (aC (aA 0) aH)) (s_call Cr Cs (aC (aA 1) aH)))))
theorem Nw {f:Addr} {fd:c3} (hbn:∀ x∈bsL,mg x=none) (F:Fun K "_law_later" "_law_later" nC f fd) (bZ:gU P w K mg base cl) (jI:sZ P w K mg base cl) (Cv:Ew P w K mg base cl):aU P w K mg base CX0 4 f fd ["_law_hands_here","_law_deeds","_law_rows","_law_names","_law_top"] (spM (cC w K cl) 5 vE):=
 let ⟨_,_,dY,dZ⟩:=bZ; let ⟨_,_,yP,yQ⟩:=jI; let ⟨_,_,QK,QL⟩:=Cv; cH (C:=cC w K cl) (k:=3) (N:=["_law_hands_here","_law_deeds","_law_rows","_law_names","_law_top","_law_found","_law_deed","_law_counts"]) (body:=C4) (fun _ _ _ h=>h) hbn F qV fun cdv A outer s H E=>
 (aF (fR (i:=5) qV.nd rfl rfl (js:=[none,some 3]) (N:=yG) rfl rfl (by rfl) (bX (aA 1)) (fun _ _ _ _=>(aP Ei)) (fun _ _ _ _=>(dO (bQ S8 (bB (aA 0) aG) (aA 1)))) (fun _ _ _ _=>(aA 0)))
 (aF (kY (bX (aA 2)) (wJ (dA (aP qV.nd) (dA (aP qV.nd) wI)))
  (aJ (kW (bQ wO (aA 6) (aA 1))
   (aF (kW (SW.t (w_or (bQ By (s_call dY dZ (aC (aA 6) aH)) (aA 4)) (LO (HM (Dp (bR M8 PyProof.Rows.Boot.«all» (aC (cJ (js:=[none,some 6]) (N:=yH) rfl rfl (by rfl) (bX (aA 3)) (fun _ _ _ _=>(aP Ej)) (fun _ _ _ _=>gL) (fun _ _ _ _=>(s_call yP yQ (aC (bB (aA 1) aG) (aC (aA 0) aH))))) aH) (hb:=Gq)))))))
    (aJ (bP Bw))
    dB)
   (aJ (kW (HM (Dp (bR M8 PyProof.Rows.Boot.«all» (aC (cJ (js:=[none,some 6]) (N:=yI) rfl rfl (by rfl) (bX (aA 5)) (fun _ _ _ _=>(aP Ek)) (fun _ _ _ _=>gL) (fun _ _ _ _=>(s_call QK QL (aC (aA 0) (aC (aA 1) aH))))) aH) (hb:=Gq))))
    (aJ (bP Bw))
    dB)))
   dB)))
 (aJ (bP Bw))))
theorem Gv {f:Addr} {fd:c3} (hbn:∀ x∈bsL,mg x=none) (F:Fun K "name_of" "name_of" fY f fd):aU P w K mg base CX0 1 f fd ["deed"] (spM (cC w K cl) 1 iX):=
 cH (C:=cC w K cl) (k:=0) (N:=["deed"]) (body:=sO) (fun _ _ _ h=>h) hbn F Gp fun cdv A outer s H E=>
 (aJ (bP (bB (aA 0) aG)))
theorem EB {f:Addr} {fd:c3} (hbn:∀ x∈bsL,mg x=none) (F:Fun K "taker_of" "taker_of" eP f fd):aU P w K mg base CX0 1 f fd ["n","backs"] (spM (cC w K cl) 2 jT):=
 cH (C:=cC w K cl) (k:=0) (N:=["n","backs","back","word","first","last"]) (body:=oK) (fun _ _ _ h=>h) hbn F fK fun cdv A outer s H E=>
 (aF (kY (bX (aA 1)) (aP fK.nd)
  (aF (LQ (bB (aA 2) aG) (wJ (dA (aP fK.nd) (dA (aP fK.nd) (dA (aP fK.nd) wI)))))
  (aJ (kW (VD By By (aA 4) (aA 0) (aA 5))
   (aJ (bP (bB (aA 2) aG)))
   dB))))
 (aJ (bP HH)))
theorem JZ {f:Addr} {fd:c3} (hbn:∀ x∈bsL,mg x=none) (F:Fun K "takers" "takers" jE f fd) (tH:yM P w K mg base cl) (oU:uE P w K mg base cl):aU P w K mg base CX0 4 f fd ["deeds"] (spM (cC w K cl) 1 qN):=
 let ⟨_,_,K0,K1⟩:=tH; let ⟨_,_,Gw,Gx⟩:=oU; cH (C:=cC w K cl) (k:=3) (N:=["deeds","taken","backs","deed","hand","n","word","by"]) (body:=xQ) (fun _ _ _ h=>h) hbn F dI fun cdv A outer s H E=>
 (aF (bJ (i:=1) dI.nd BC)
 (aF (bJ (i:=2) dI.nd BC)
 (aF (kY (bX (Mn K0 K1 (aA 0) (hb:=nD))) (aP dI.nd)
  (aF (LQ (bB (aA 3) aG) (wJ (dA (aP dI.nd) (dA (aP dI.nd) wI))))
  (aF (bJ (i:=6) dI.nd (bB (bB (aA 3) aG) aG))
  (aF (kW (bQ Bz (aA 6) kR)
   (aF (xE (pR aH) (aA 2) (aA 4))
   (aJ VI))
   dB)
  (aF (bJ (i:=7) dI.nd (s_call Gw Gx (aC (aA 5) (aC (TL ix d8 PySem.F.type_dict_get Sa (aA 2) (aC (aA 4) (aC (pR aH) aH))) aH))))
  (aJ (kW (bQ Po (aA 7) HH)
   (aJ (xE (aA 7) (aA 1) (bB (aA 3) aG)))
   (aJ (kW (bQ Bz (aA 6) kR)
    (aJ (HQ (FP eu jz j0 pU (TL ix ko PySem.F.type_dict_setdefault BN (aA 2) (aC (aA 4) (aC (pR aH) aH))) (aC (aA 3) aH))))
    dB)))))))))
 (aJ (bP (aA 1))))))
theorem EC {f:Addr} {fd:c3} (hbn:∀ x∈bsL,mg x=none) (F:Fun K "in_force" "in_force" eR f fd) (eV:lY P w K mg base cl) (yR:B1 P w K mg base cl):aU P w K mg base CX0 6 f fd ["deeds"] (spM (cC w K cl) 1 gR):=
 let ⟨_,_,oR,oT⟩:=eV; let ⟨_,_,Ny,Nz⟩:=yR; cH (C:=cC w K cl) (k:=5) (N:=["deeds","ordered","taken"]) (body:=oM) (fun _ _ _ h=>h) hbn F lW fun cdv A outer s H E=>
 (aF (bJ (i:=1) lW.nd (s_call oR oT (aC (aA 0) aH)))
 (aF (bJ (i:=2) lW.nd (s_call Ny Nz (aC (aA 1) aH)))
 (aJ (bP (cJ (js:=[none,some 2]) (N:=nO) rfl rfl (by rfl) (bX (aA 1)) (fun _ _ _ _=>(aP yJ)) (fun _ _ _ _=>(dO (bQ wO (bB (aA 0) aG) (aA 1)))) (fun _ _ _ _=>(aA 0)))))))
theorem Gy {f:Addr} {fd:c3} (hbn:∀ x∈bsL,mg x=none) (F:Fun K "settled" "settled" fZ f fd) (bZ:gU P w K mg base cl) (fP:rD P w K mg base cl) (oV:uF P w K mg base cl):aU P w K mg base CX0 7 f fd ["hands","deeds"] (spM (cC w K cl) 2 fT):=
 let ⟨_,_,dY,dZ⟩:=bZ; let ⟨_,_,rE,rF⟩:=fP; let ⟨_,_,Gz,GA⟩:=oV; cH (C:=cC w K cl) (k:=6) (N:=["hands","deeds","highest"]) (body:=sP) (fun _ _ _ h=>h) hbn F yK fun cdv A outer s H E=>
 (aF (bJ (i:=2) yK.nd (s_call rE rF (aC (aA 0) (aC (aA 1) aH))))
 (aJ (bP (cJ (js:=[none,some 2]) (N:=qW) rfl rfl (by rfl) (bX (s_call Gz GA (aC (aA 1) aH))) (fun _ _ _ _=>(aP zQ)) (fun _ _ _ _=>(dO (bQ By (s_call dY dZ (aC (aA 0) aH)) (aA 1)))) (fun _ _ _ _=>(aA 0))))))
theorem yS {f:Addr} {fd:c3} (hbn:∀ x∈bsL,mg x=none) (F:Fun K "_law_with_a_back" "_law_with_a_back" cL f fd) (bZ:gU P w K mg base cl) (tI:yN P w K mg base cl):aU P w K mg base CX0 8 f fd ["_law_hands_here","_law_deeds","_law_rows","_law_top"] (spM (cC w K cl) 4 fB):=
 let ⟨_,_,dY,dZ⟩:=bZ; let ⟨_,_,B2,B4⟩:=tI; cH (C:=cC w K cl) (k:=7) (N:=["_law_hands_here","_law_deeds","_law_rows","_law_top","_law_due","_law_backs","_law_deed","_law_counts","_law_more"]) (body:=iK) (fun _ _ _ h=>h) hbn F cF fun cdv A outer s H E=>
 (aF (bJ (i:=4) cF.nd (s_call B2 B4 (aC (aA 0) (aC (aA 1) aH))))
 (aF (fR (i:=5) cF.nd rfl rfl (js:=[none,some 1]) (N:=jF) rfl rfl (by rfl) (bX (aA 2)) (fun _ _ _ _=>(aP qX)) (fun _ _ _ _=>(dO (SW.t (w_and (bQ Bz (bB (bB (bB (aA 0) aG) aG) aG) kR) (BA (bQ wO (bB (aA 0) aG) (aA 1))))))) (fun _ _ _ _=>(aA 0)))
 (aF (kY (bX (Pp (aA 5) FO (wG aG))) (wJ (dA (aP cF.nd) (dA (aP cF.nd) wI)))
  (aF (fR (i:=8) cF.nd rfl rfl (js:=[none,some 1,some 7,some 0]) (N:=jG) rfl rfl (by rfl) (bX (aA 2)) (fun _ _ _ _=>(aP qY)) (fun _ _ _ _=>(dO (SW.t (w_or (bQ S8 (bB (aA 0) aG) (aA 1)) (LO (bQ By (bB (bB (bB (aA 0) aG) aG) aG) (bB (aA 2) (FP eu PySem.F.slot_list_index PySem.F.type_list_index BV (aA 3) (aC (bB (bB (bB (aA 0) aG) aG) aG) aH))))))))) (fun _ _ _ _=>(bB (aA 0) aG)))
  (aJ (kW (bQ Tt (cJ (js:=[none,some 3]) (N:=jH) rfl rfl (by rfl) (bX (s_call B2 B4 (aC (aA 0) (aC (aA 8) aH)))) (fun _ _ _ _=>(aP qZ)) (fun _ _ _ _=>(dO (bQ By (s_call dY dZ (aC (aA 0) aH)) (aA 1)))) (fun _ _ _ _=>(aA 0))) (aA 4))
   (aJ (bP Bw))
   dB))))
 (aJ (bP Bw)))))
theorem Uk {f:Addr} {fd:c3} (hbn:∀ x∈bsL,mg x=none) (F:Fun K "law" "law" rA f fd) (Cw:Er P w K mg base cl) (fP:rD P w K mg base cl) (GB:II P w K mg base cl) (GC:IK P w K mg base cl) (Cy:Eu P w K mg base cl) (Cz:Ex P w K mg base cl) (iN:lZ P w K mg base cl):aU P w K mg base CX0 9 f fd ["_law_script"] (spM (cC w K cl) 1 ME):=
 let ⟨_,_,QM,QN⟩:=Cw; let ⟨_,_,rE,rF⟩:=fP; let ⟨_,_,Ul,Um⟩:=GB; let ⟨_,_,Uo,Up⟩:=GC; let ⟨_,_,QO,QP⟩:=Cy; let ⟨_,_,QQ,QR⟩:=Cz; let ⟨_,_,zR,zS⟩:=iN; cH (C:=cC w K cl) (k:=8) (N:=["_law_script","_law_cell","_law_hands_here","_law_rows","_law_moments","_law_number","_law_moment","_law_who","_law_deeds","_law_names","_law_counts","_law_top"]) (body:=MD) (fun _ _ _ h=>h) hbn F eU fun cdv A outer s H E=>
 (aF (bJ (i:=1) eU.nd aG)
 (aF (kW (bQ LL (bR nL PyProof.Rows.Boot.«len» (aC (aA 0) aH) (hb:=iM)) aG)
  (aJ (bJ (i:=1) eU.nd (bB (aA 0) aG)))
  dB)
 (aF (bJ (i:=2) eU.nd (s_call QM QN (aC (aA 1) aH)))
 (aF (bJ (i:=3) eU.nd (pR aH))
 (aF (bJ (i:=4) eU.nd (pR (aC (cJ (js:=[none,some 2]) (N:=El) rfl rfl (by rfl) (bX (aA 2)) (fun _ _ _ _=>(aP JR)) (fun _ _ _ _=>gL) (fun _ _ _ _=>(cJ (js:=[none]) (N:=Em) rfl rfl (by rfl) (bX (aA 1)) (fun _ _ _ _=>(aP JS)) (fun _ _ _ _=>gL) (fun _ _ _ _=>aG)))) aH)))
 (aF (kY (bX (Pp (aA 0) (wG aG) (wG aG))) (aP eU.nd)
  (aJ (HQ (FP eu jz j0 pU (aA 4) (aC (s_call Uo Up (aC (aA 3) (aC (bB (aA 4) (VA S6 aG)) (aC (aA 2) (aC (aA 5) aH))))) aH)))))
 (aF (bJ (i:=6) eU.nd (bB (aA 4) (aO eC (aO jX (aA 1) aG) (bR nL PyProof.Rows.Boot.«len» (aC (aA 4) aH) (hb:=iM)))))
 (aF (kY (BD (aC (bR nL PyProof.Rows.Boot.«len» (aC (aA 2) aH) (hb:=iM)) aH) (hb:=rB)) (aP eU.nd)
  (aF (bJ (i:=8) eU.nd (PY (s_call QO QP (aC (cJ (js:=[none]) (N:=En) rfl rfl (by rfl) (bX (aA 3)) (fun _ _ _ _=>(aP JT)) (fun _ _ _ _=>gL) (fun _ _ _ _=>(bB (aA 0) aG))) (aC (aA 2) (aC (bB (aA 6) (aA 7)) aH)))) (VA S6 aG)))
  (aF (bJ (i:=9) eU.nd (s_call Ul Um (aC (aA 2) (aC (aA 8) aH))))
  (aF (kY (bX (aA 6)) (aP eU.nd)
   (aJ (kW (bQ Tt (cJ (js:=[none,some 10,some 2]) (N:=Eo) rfl rfl (by rfl) (bX (aA 9)) (fun _ _ _ _=>(aP JU)) (fun _ _ _ _=>(dO (bQ LL (bB (aA 0) aG) (bB (aA 1) (FP eu PySem.F.slot_list_index PySem.F.type_list_index BV (aA 2) (aC (bB (aA 0) aG) aH)))))) (fun _ _ _ _=>(aA 0))) (pR aH))
    (aJ (bP Bw))
    dB)))
  (aF (bJ (i:=11) eU.nd (s_call rE rF (aC (aA 2) (aC (aA 8) aH))))
  (aJ (kW (SW.t (w_or (HM (Dp (s_call QQ QR (aC (aA 2) (aC (aA 8) (aC (aA 3) (aC (aA 9) (aC (aA 11) aH)))))))) (LO (HM (Dp (s_call zR zS (aC (aA 2) (aC (aA 8) (aC (aA 3) (aC (aA 11) aH))))))))))
   (aJ (bP Bw))
   dB)))))))
 (aJ (bP Bw))))))))))
end
def spL (K:af):Sp:=fun vs H Q _=>∃ (a:Addr) (ns:List Int),vs=[.ref a]/\Lh H/\SqL K H a (ns.map V.int)/\ns.length<=63/\∀ H',Q (.bl true) H'
@[elab_as_elim] theorem ED {P:List Value->Prop} (us:List Value) (hl:us.length=1) (h:∀ a0,P [a0]):P us:=by
 cases us with
 | nil=>cases hl
 | cons a0 us=>
  cases us with
  | nil=>exact h a0
  | cons b us=>
   simp only [da] at hl;omega
@[elab_as_elim] theorem uT {P:List Value->Prop} (us:List Value) (hl:us.length=2) (h:∀ a0 a1,P [a0,a1]):P us:=by
 cases us with
 | nil=>cases hl
 | cons a0 us=>
  cases us with
  | nil=>cases hl
  | cons a1 us=>
   cases us with
   | nil=>exact h a0 a1
   | cons b us=>
    simp only [da] at hl;omega
@[elab_as_elim] theorem Wy {P:List Value->Prop} (us:List Value) (hl:us.length=3) (h:∀ a0 a1 a2,P [a0,a1,a2]):P us:=by
 cases us with
 | nil=>cases hl
 | cons a0 us=>
  cases us with
  | nil=>cases hl
  | cons a1 us=>
   cases us with
   | nil=>cases hl
   | cons a2 us=>
    cases us with
    | nil=>exact h a0 a1 a2
    | cons b us=>
     simp only [da] at hl;omega
@[elab_as_elim] theorem Wz {P:List Value->Prop} (us:List Value) (hl:us.length=4) (h:∀ a0 a1 a2 a3,P [a0,a1,a2,a3]):P us:=by
 cases us with
 | nil=>cases hl
 | cons a0 us=>
  cases us with
  | nil=>cases hl
  | cons a1 us=>
   cases us with
   | nil=>cases hl
   | cons a2 us=>
    cases us with
    | nil=>cases hl
    | cons a3 us=>
     cases us with
     | nil=>exact h a0 a1 a2 a3
     | cons b us=>
      simp only [da] at hl;omega
@[elab_as_elim] theorem Y1 {P:List Value->Prop} (us:List Value) (hl:us.length=5) (h:∀ a0 a1 a2 a3 a4,P [a0,a1,a2,a3,a4]):P us:=by
 cases us with
 | nil=>cases hl
 | cons a0 us=>
  cases us with
  | nil=>cases hl
  | cons a1 us=>
   cases us with
   | nil=>cases hl
   | cons a2 us=>
    cases us with
    | nil=>cases hl
    | cons a3 us=>
     cases us with
     | nil=>cases hl
     | cons a4 us=>
      cases us with
      | nil=>exact h a0 a1 a2 a3 a4
      | cons b us=>
       simp only [da] at hl;omega
theorem all_mk {l:PySem.W.OpenLaw} {w:World} {K:af} {h:Heap} {mg:Str->Option Value} {fa CA mE tJ CB CC yT tK CD GD oW yU GE GF CF NA GG CG CH CI tL oX yV oY tM iO NB:Addr} (X:K.In h) (G:h.Ns b8 mg) (hfa:mg "law" = some (.ref fa)) (hbn:∀ x∈bsL,mg x=none)
  (QS:c5 K b8 "_law_hands" = some (some (.ref CA)))
  {NC ND K2 NF B5 NG:Value} {NH NI:Option Addr} {K3:Array (Option Value)}
  (QT:K.lookup CA=some ⟨NC,NH,.func (bw "_law_hands" "_law_hands" (aR mT) (aQ mT) (aE mT) .none ND K2 NF NI B5 NG),K3⟩)
  (QU:bq K B5 "_law_hands" = true)
  (QV:bg K (.ref CA)=true)
  (EE:c5 K b8 "number_of" = some (some (.ref mE)))
  {CJ CK zT CL nQ CM:Value} {CN CO:Option Addr} {zU:Array (Option Value)}
  (EF:K.lookup mE=some ⟨CJ,CN,.func (bw "number_of" "number_of" (aR dH) (aQ dH) (aE dH) .none CK zT CL CO nQ CM),zU⟩)
  (EG:bq K nQ "number_of" = true)
  (EH:bg K (.ref mE)=true)
  (K4:c5 K b8 "last_of" = some (some (.ref tJ)))
  {GH GI EI GJ uG GK:Value} {GL GM:Option Addr} {EJ:Array (Option Value)}
  (K5:K.lookup tJ=some ⟨GH,GL,.func (bw "last_of" "last_of" (aR fW) (aQ fW) (aE fW) .none GI EI GJ GM uG GK),EJ⟩)
  (K6:bq K uG "last_of" = true)
  (K7:bg K (.ref tJ)=true)
  (QW:c5 K b8 "stamp" = some (some (.ref CB)))
  {NJ NK K8 NL B6 NM:Value} {NN NO:Option Addr} {K9:Array (Option Value)}
  (QX:K.lookup CB=some ⟨NJ,NN,.func (bw "stamp" "stamp" (aR mU) (aQ mU) (aE mU) .none NK K8 NL NO B6 NM),K9⟩)
  (QY:bq K B6 "stamp" = true)
  (QZ:bg K (.ref CB)=true)
  (R1:c5 K b8 "bound" = some (some (.ref CC)))
  {NP NQ K' NR B7 NS:Value} {NT NU:Option Addr} {Ka:Array (Option Value)}
  (R3:K.lookup CC=some ⟨NP,NT,.func (bw "bound" "bound" (aR mW) (aQ mW) (aE mW) .none NQ K' NR NU B7 NS),Ka⟩)
  (R4:bq K B7 "bound" = true)
  (R5:bg K (.ref CC)=true)
  (NV:c5 K b8 "joined" = some (some (.ref yT)))
  {Kb Kc GN Ke yW Kf:Value} {Kg Kh:Option Addr} {GO:Array (Option Value)}
  (NW:K.lookup yT=some ⟨Kb,Kg,.func (bw "joined" "joined" (aR jC) (aQ jC) (aE jC) .none Kc GN Ke Kh yW Kf),GO⟩)
  (NX:bq K yW "joined" = true)
  (NY:bg K (.ref yT)=true)
  (Ki:c5 K b8 "widened" = some (some (.ref tK)))
  {GP GQ EK GR uH GS:Value} {GT GU:Option Addr} {EL:Array (Option Value)}
  (Kj:K.lookup tK=some ⟨GP,GT,.func (bw "widened" "widened" (aR fX) (aQ fX) (aE fX) .none GQ EK GR GU uH GS),EL⟩)
  (Kk:bq K uH "widened" = true)
  (Kl:bg K (.ref tK)=true)
  (R6:c5 K b8 "known" = some (some (.ref CD)))
  {NZ O0 Km O1 B8 O2:Value} {O3 O4:Option Addr} {Kn:Array (Option Value)}
  (R7:K.lookup CD=some ⟨NZ,O3,.func (bw "known" "known" (aR mY) (aQ mY) (aE mY) .none O0 Km O1 O4 B8 O2),Kn⟩)
  (R8:bq K B8 "known" = true)
  (R9:bg K (.ref CD)=true)
  (Uq:c5 K b8 "rank" = some (some (.ref GD)))
  {Ra Rb O5 Rc EM Re:Value} {Rf Rg:Option Addr} {O6:Array (Option Value)}
  (Ur:K.lookup GD=some ⟨Ra,Rf,.func (bw "rank" "rank" (aR sU) (aQ sU) (aE sU) .none Rb O5 Rc Rg EM Re),O6⟩)
  (Us:bq K EM "rank" = true)
  (Ut:bg K (.ref GD)=true)
  (GV:c5 K b8 "in_order" = some (some (.ref oW)))
  {EN EO CP ER rG ES:Value} {ET EU:Option Addr} {CQ:Array (Option Value)}
  (GW:K.lookup oW=some ⟨EN,ET,.func (bw "in_order" "in_order" (aR eO) (aQ eO) (aE eO) .none EO CP ER EU rG ES),CQ⟩)
  (GX:bq K rG "in_order" = true)
  (GY:bg K (.ref oW)=true)
  (O7:c5 K b8 "covers" = some (some (.ref yU)))
  {Ko Kr GZ Ks yX Kt:Value} {Ku Kv:Option Addr} {Ha:Array (Option Value)}
  (O8:K.lookup yU=some ⟨Ko,Ku,.func (bw "covers" "covers" (aR jD) (aQ jD) (aE jD) .none Kr GZ Ks Kv yX Kt),Ha⟩)
  (O9:bq K yX "covers" = true)
  (O':bg K (.ref yU)=true)
  (Uu:c5 K b8 "sunk" = some (some (.ref GE)))
  {Rh Ri Oa Rj EV Rk:Value} {Rl Rm:Option Addr} {Ob:Array (Option Value)}
  (Uv:K.lookup GE=some ⟨Rh,Rl,.func (bw "sunk" "sunk" (aR sW) (aQ sW) (aE sW) .none Ri Oa Rj Rm EV Rk),Ob⟩)
  (Uw:bq K EV "sunk" = true)
  (Ux:bg K (.ref GE)=true)
  (Uy:c5 K b8 "_law_seen" = some (some (.ref GF)))
  {Rn Ro Oc Rp EW Rq:Value} {Rr Rt:Option Addr} {Od:Array (Option Value)}
  (Uz:K.lookup GF=some ⟨Rn,Rr,.func (bw "_law_seen" "_law_seen" (aR sX) (aQ sX) (aE sX) .none Ro Oc Rp Rt EW Rq),Od⟩)
  (UA:bq K EW "_law_seen" = true)
  (UB:bg K (.ref GF)=true)
  (Ru:c5 K b8 "_law_mixed" = some (some (.ref CF)))
  {Oe Of Kw Og B9 Oh:Value} {Oi Oj:Option Addr} {Kx:Array (Option Value)}
  (Rv:K.lookup CF=some ⟨Oe,Oi,.func (bw "_law_mixed" "_law_mixed" (aR mZ) (aQ mZ) (aE mZ) .none Of Kw Og Oj B9 Oh),Kx⟩)
  (Rw:bq K B9 "_law_mixed" = true)
  (Rx:bg K (.ref CF)=true)
  (WA:c5 K b8 "_law_act" = some (some (.ref NA)))
  {UC UD Ry UE IL UF:Value} {UG UH:Option Addr} {Rz:Array (Option Value)}
  (WB:K.lookup NA=some ⟨UC,UG,.func (bw "_law_act" "_law_act" (aR AX) (aQ AX) (aE AX) .none UD Ry UE UH IL UF),Rz⟩)
  (WC:bq K IL "_law_act" = true)
  (WD:bg K (.ref NA)=true)
  (UI:c5 K b8 "_law_step" = some (some (.ref GG)))
  {RA RB Ol RC EX RD:Value} {RF RG:Option Addr} {Om:Array (Option Value)}
  (UJ:K.lookup GG=some ⟨RA,RF,.func (bw "_law_step" "_law_step" (aR sY) (aQ sY) (aE sY) .none RB Ol RC RG EX RD),Om⟩)
  (UK:bq K EX "_law_step" = true)
  (UL:bg K (.ref GG)=true)
  (RI:c5 K b8 "_law_taken" = some (some (.ref CG)))
  {On Oo Ky Oq Ba Os:Value} {Ot Ou:Option Addr} {Kz:Array (Option Value)}
  (RJ:K.lookup CG=some ⟨On,Ot,.func (bw "_law_taken" "_law_taken" (aR nA) (aQ nA) (aE nA) .none Oo Ky Oq Ou Ba Os),Kz⟩)
  (RK:bq K Ba "_law_taken" = true)
  (RL:bg K (.ref CG)=true)
  (RM:c5 K b8 "ahead" = some (some (.ref CH)))
  {Ov Ow KA Ox Bb Oy:Value} {Oz OA:Option Addr} {KB:Array (Option Value)}
  (RN:K.lookup CH=some ⟨Ov,Oz,.func (bw "ahead" "ahead" (aR nB) (aQ nB) (aE nB) .none Ow KA Ox OA Bb Oy),KB⟩)
  (RP:bq K Bb "ahead" = true)
  (RQ:bg K (.ref CH)=true)
  (RR:c5 K b8 "_law_later" = some (some (.ref CI)))
  {OB OC KC OD Bc OE:Value} {OF OG:Option Addr} {KD:Array (Option Value)}
  (RS:K.lookup CI=some ⟨OB,OF,.func (bw "_law_later" "_law_later" (aR nC) (aQ nC) (aE nC) .none OC KC OD OG Bc OE),KD⟩)
  (RT:bq K Bc "_law_later" = true)
  (RU:bg K (.ref CI)=true)
  (KF:c5 K b8 "name_of" = some (some (.ref tL)))
  {Hb Hc EY Hd uI He:Value} {Hf Hg:Option Addr} {EZ:Array (Option Value)}
  (KG:K.lookup tL=some ⟨Hb,Hf,.func (bw "name_of" "name_of" (aR fY) (aQ fY) (aE fY) .none Hc EY Hd Hg uI He),EZ⟩)
  (KH:bq K uI "name_of" = true)
  (KI:bg K (.ref tL)=true)
  (Hh:c5 K b8 "taker_of" = some (some (.ref oX)))
  {F0 F1 CS F2 rH F3:Value} {F4 F5:Option Addr} {CT:Array (Option Value)}
  (Hi:K.lookup oX=some ⟨F0,F4,.func (bw "taker_of" "taker_of" (aR eP) (aQ eP) (aE eP) .none F1 CS F2 F5 rH F3),CT⟩)
  (Hj:bq K rH "taker_of" = true)
  (Hk:bg K (.ref oX)=true)
  (OH:c5 K b8 "takers" = some (some (.ref yV)))
  {KJ KL Hl KM yY KN:Value} {KO KQ:Option Addr} {Hn:Array (Option Value)}
  (OI:K.lookup yV=some ⟨KJ,KO,.func (bw "takers" "takers" (aR jE) (aQ jE) (aE jE) .none KL Hl KM KQ yY KN),Hn⟩)
  (OJ:bq K yY "takers" = true)
  (OK:bg K (.ref yV)=true)
  (Ho:c5 K b8 "in_force" = some (some (.ref oY)))
  {F6 F7 CU F8 rJ F9:Value} {Fb Fc:Option Addr} {CV:Array (Option Value)}
  (Hq:K.lookup oY=some ⟨F6,Fb,.func (bw "in_force" "in_force" (aR eR) (aQ eR) (aE eR) .none F7 CU F8 Fc rJ F9),CV⟩)
  (Hr:bq K rJ "in_force" = true)
  (Hs:bg K (.ref oY)=true)
  (KR:c5 K b8 "settled" = some (some (.ref tM)))
  {Ht Hu Fd Hv uJ Hw:Value} {Hx Hy:Option Addr} {Fe:Array (Option Value)}
  (KS:K.lookup tM=some ⟨Ht,Hx,.func (bw "settled" "settled" (aR fZ) (aQ fZ) (aE fZ) .none Hu Fd Hv Hy uJ Hw),Fe⟩)
  (KU:bq K uJ "settled" = true)
  (KW:bg K (.ref tM)=true)
  (zV:c5 K b8 "_law_with_a_back" = some (some (.ref iO)))
  {yZ zA uU zB kE zC:Value} {zD zE:Option Addr} {uV:Array (Option Value)}
  (zW:K.lookup iO=some ⟨yZ,zD,.func (bw "_law_with_a_back" "_law_with_a_back" (aR cL) (aQ cL) (aE cL) .none zA uU zB zE kE zC),uV⟩)
  (zX:bq K kE "_law_with_a_back" = true)
  (zY:bg K (.ref iO)=true)
  (WE:c5 K b8 "law" = some (some (.ref NB)))
  {UM OL IM OM CW ON:Value} {UN OO:Option Addr} {RW:Array (Option Value)}
  (WG:K.lookup NB=some ⟨UM,UN,.func (bw "law" "law" (aR rA) (aQ rA) (aE rA) .none OL IM OM OO CW ON),RW⟩)
  (WH:bq K CW "law" = true)
  (WI:bg K (.ref NB)=true)
  : ∃ fd:c3,(∀ (s:Shared) (v:Value),BindsTo s fd ⟨[v],[]⟩ [("_law_script",v)])/\∀ base:Heap,K.In base->base.Ns b8 mg->aU l.prog w K mg base CX0 9 fa fd ["_law_script"] (spL K):=by
 have e:=hfa.symm.trans (PySem.W.mg_of X G WE);cases e
 refine ⟨bw "law" "law" (aR rA) (aQ rA) (aE rA) .none OL IM OM OO CW ON,fun s v=>.of_eq rfl,fun base _ _=>?_⟩;have Cw:Er l.prog w K mg base (fun z=>none):=fN (Def.mk' X G QS QT QU QV (fun _ _ _ _ _ _ us hl=>ED us hl fun _=>rfl)) fun F=>Nj (cl:=fun z=>none) hbn F;have mD:rC l.prog w K mg base (fun z=>none):=fN (Def.mk' X G EE EF EG EH (fun _ _ _ _ _ _ us hl=>ED us hl fun _=>rfl)) fun F=>Cq (cl:=fun z=>none) hbn F;have gE:oQ l.prog w K mg base (fun z=>none):=fN (Def.mk' X G K4 K5 K6 K7 (fun _ _ _ _ _ _ us hl=>uT us hl fun _ _=>rfl)) fun F=>Gr (cl:=fun z=>none) hbn F mD;have bZ:gU l.prog w K mg base (fun z=>none):=fN (Def.mk' X G QW QX QY QZ (fun _ _ _ _ _ _ us hl=>ED us hl fun _=>rfl)) fun F=>Nk (cl:=fun z=>none) hbn F;have fP:rD l.prog w K mg base (fun z=>none):=fN (Def.mk' X G R1 R3 R4 R5 (fun _ _ _ _ _ _ us hl=>uT us hl fun _ _=>rfl)) fun F=>Nl (cl:=fun z=>none) hbn F gE bZ;have yO:B0 l.prog w K mg base (fun z=>none):=fN (Def.mk' X G NV NW NX NY (fun _ _ _ _ _ _ us hl=>uT us hl fun _ _=>rfl)) fun F=>JV (cl:=fun z=>none) hbn F;have tF:yL l.prog w K mg base (fun z=>none):=fN (Def.mk' X G Ki Kj Kk Kl (fun _ _ _ _ _ _ us hl=>uT us hl fun _ _=>rfl)) fun F=>Gs (cl:=fun z=>none) hbn F yO;have Ct:Es l.prog w K mg base (fun z=>none):=fN (Def.mk' X G R6 R7 R8 R9 (fun _ _ _ _ _ _ us hl=>uT us hl fun _ _=>rfl)) fun F=>Nq (cl:=fun z=>none) hbn F gE tF;have tG:Cp l.prog w K mg base (fun z=>none):=fN (Def.mk' X G Uq Ur Us Ut (fun _ _ _ _ _ _ us hl=>ED us hl fun _=>rfl)) fun F=>QC (cl:=fun z=>none) hbn F bZ;have eV:lY l.prog w K mg base (fun z=>none):=fN (Def.mk' X G GV GW GX GY (fun _ _ _ _ _ _ us hl=>ED us hl fun _=>rfl)) fun F=>EA (cl:=fun z=>none) hbn F tG;have jI:sZ l.prog w K mg base (fun z=>none):=fN (Def.mk' X G O7 O8 O9 O' (fun _ _ _ _ _ _ us hl=>uT us hl fun _ _=>rfl)) fun F=>JY (cl:=fun z=>none) hbn F;have GB:II l.prog w K mg base (fun z=>none):=fN (Def.mk' X G Uu Uv Uw Ux (fun _ _ _ _ _ _ us hl=>uT us hl fun _ _=>rfl)) fun F=>QD (cl:=fun z=>none) hbn F bZ fP Ct eV jI;have Gu:IJ l.prog w K mg base (fun z=>none):=fN (Def.mk' X G Uy Uz UA UB (fun _ _ _ _ _ _ us hl=>uT us hl fun _ _=>rfl)) fun F=>QG (cl:=fun z=>none) hbn F;have Cu:Et l.prog w K mg base (fun z=>none):=fN (Def.mk' X G Ru Rv Rw Rx (fun _ _ _ _ _ _ us hl=>uT us hl fun _ _=>rfl)) fun F=>Nr (cl:=fun z=>none) hbn F;have Nt:Ni l.prog w K mg base (fun z=>none):=fN (Def.mk' X G WA WB WC WD (fun _ _ _ _ _ _ us hl=>Wy us hl fun _ _ _=>rfl)) fun F=>Uh (cl:=fun z=>none) hbn F Cu;have GC:IK l.prog w K mg base (fun z=>none):=fN (Def.mk' X G UI UJ UK UL (fun _ _ _ _ _ _ us hl=>Wz us hl fun _ _ _ _=>rfl)) fun F=>QJ (cl:=fun z=>none) hbn F Gu Nt;have Cy:Eu l.prog w K mg base (fun z=>none):=fN (Def.mk' X G RI RJ RK RL (fun _ _ _ _ _ _ us hl=>Wy us hl fun _ _ _=>rfl)) fun F=>Nu (cl:=fun z=>none) hbn F;have Cv:Ew l.prog w K mg base (fun z=>none):=fN (Def.mk' X G RM RN RP RQ (fun _ _ _ _ _ _ us hl=>uT us hl fun _ _=>rfl)) fun F=>Nv (cl:=fun z=>none) hbn F tG;have Cz:Ex l.prog w K mg base (fun z=>none):=fN (Def.mk' X G RR RS RT RU (fun _ _ _ _ _ _ us hl=>Y1 us hl fun _ _ _ _ _=>rfl)) fun F=>Nw (cl:=fun z=>none) hbn F bZ jI Cv;have tH:yM l.prog w K mg base (fun z=>none):=fN (Def.mk' X G KF KG KH KI (fun _ _ _ _ _ _ us hl=>ED us hl fun _=>rfl)) fun F=>Gv (cl:=fun z=>none) hbn F;have oU:uE l.prog w K mg base (fun z=>none):=fN (Def.mk' X G Hh Hi Hj Hk (fun _ _ _ _ _ _ us hl=>uT us hl fun _ _=>rfl)) fun F=>EB (cl:=fun z=>none) hbn F;have yR:B1 l.prog w K mg base (fun z=>none):=fN (Def.mk' X G OH OI OJ OK (fun _ _ _ _ _ _ us hl=>ED us hl fun _=>rfl)) fun F=>JZ (cl:=fun z=>none) hbn F tH oU;have oV:uF l.prog w K mg base (fun z=>none):=fN (Def.mk' X G Ho Hq Hr Hs (fun _ _ _ _ _ _ us hl=>ED us hl fun _=>rfl)) fun F=>EC (cl:=fun z=>none) hbn F eV yR;have tI:yN l.prog w K mg base (fun z=>none):=fN (Def.mk' X G KR KS KU KW (fun _ _ _ _ _ _ us hl=>uT us hl fun _ _=>rfl)) fun F=>Gy (cl:=fun z=>none) hbn F bZ fP oV;have iN:lZ l.prog w K mg base (fun z=>none):=fN (Def.mk' X G zV zW zX zY (fun _ _ _ _ _ _ us hl=>Wz us hl fun _ _ _ _=>rfl)) fun F=>yS (cl:=fun z=>none) hbn F bZ tI;refine (Uk (cl:=fun z=>none) hbn (Fu (st:=rA) WG WH WI) Cw fP GB GC Cy Cz iN).imp fun vs H Q E hh=>?_;obtain ⟨a,ns,rfl,hO,hS,hl,hq⟩:=hh;exact TC (C:=cC w K (fun z=>none)) hO hS (main ns hl) hq
theorem walk {l:PySem.W.OpenLaw} {q:Program} {loose:List Str} {XP:(Str->Option Value)->Heap->Prop} {YP:World->Heap->Prop} {d:DefRec} {K:Params->af} (hn:l.most=some 63) (hdf:d.params.defaults=[])
  (hY:∀ (w:World) (h:Heap),YP w h->(K w.params).In h)
  (F:∀ (w:World) (mg:Str->Option Value) (fa:Addr) (h:Heap),(K w.params).In h->h.Ns b8 mg->mg d.name=some (.ref fa)->
   ∃ fd:c3,(∀ (s:Shared) (u:Value),BindsTo s fd ⟨[u],[]⟩ [("_law_script",u)])/\∀ base:Heap,(K w.params).In base->base.Ns b8 mg->aU l.prog w (K w.params) mg base CX0 9 fa fd ["_law_script"] (spL (K w.params))):
  PySem.W.WalkO q loose XP YP l.row.toRowW d [] (fun f vs=>PySem.call f vs):=
 L2.walk_of (n:=63) (k:=9) (x:="_law_script") (CX:=fun _=>CX0) (sp:=fun w=>spL (K w.params)) hn (by decide) hdf ⟨rfl,by decide,by decide⟩ hY F (fun w H a ns hl hO hS=>⟨a,ns,rfl,hO,hS,hl,fun _=>rfl⟩) fun _ _ _ _ _ z=>z
end K79
open PySem PySem.W PyProof.Rows
set_option maxRecDepth 100000 in
set_option maxHeartbeats 0 in
inductive PySem.W.Fast|tw10529044349824235951|tw9263290866548994010|tw16826359687285729652|tw7008543036313298218|tw13022231829203895795|tw711204626942282079|tw11817099599130486126|tw7993619816692693663|tw12180268284076241762|tw18147474580657996300|tw2704454489501877488|tw10243527627961600011|tw7820483207492720952|tw741522784210448505|tw17454831253216620176|tw9968761338835609230|tw12605992802427308397|tw227535441915869235|tw1837520900446056599
theorem PySem.Challenge.cw_copymeet_k79_whole_sunk_is_seen_by_all_holds : PySem.Challenge.rw_copymeet_k79_whole_sunk_is_seen_by_all.Holds := by
 w_on; o_law; k_head; (case hw=>w_witness2)
 k_fill
 refine K79.walk (l:=PySem.Challenge.rw_copymeet_k79_whole_sunk_is_seen_by_all) rfl rfl (fun w h Y=>PySem.W.kIn_of Y) ?F
 case F=>
  intro w mg fa h KX G hmg
  have hbn:∀ x∈K79.bsL,mg x=none:=fun x hx=>by
   rcases List.mem_cons.mp hx with rfl | hx
   ·exact PySem.W.mg_none_of KX G (by k_is)
   rcases List.mem_cons.mp hx with rfl | hx
   ·exact PySem.W.mg_none_of KX G (by k_is)
   rcases List.mem_cons.mp hx with rfl | hx
   ·exact PySem.W.mg_none_of KX G (by k_is)
   rcases List.mem_cons.mp hx with rfl | hx
   ·exact PySem.W.mg_none_of KX G (by k_is)
   rcases List.mem_cons.mp hx with rfl | hx
   ·exact PySem.W.mg_none_of KX G (by k_is)
   rcases List.mem_cons.mp hx with rfl | hx
   ·exact PySem.W.mg_none_of KX G (by k_is)
   rcases List.mem_cons.mp hx with rfl | hx
   ·exact PySem.W.mg_none_of KX G (by k_is)
   rcases List.mem_cons.mp hx with rfl | hx
   ·exact PySem.W.mg_none_of KX G (by k_is)
   rcases List.mem_cons.mp hx with rfl | hx
   ·exact PySem.W.mg_none_of KX G (by k_is)
   rcases List.mem_cons.mp hx with rfl | hx
   ·exact PySem.W.mg_none_of KX G (by k_is)
   cases hx
  refine' K79.all_mk KX G hmg hbn ?h0 ?h1 ?h2 ?h3 ?h4 ?h5 ?h6 ?h7 ?h8 ?h9 ?h10 ?h11 ?h12 ?h13 ?h14 ?h15 ?h16 ?h17 ?h18 ?h19 ?h20 ?h21 ?h22 ?h23 ?h24 ?h25 ?h26 ?h27 ?h28 ?h29 ?h30 ?h31 ?h32 ?h33 ?h34 ?h35 ?h36 ?h37 ?h38 ?h39 ?h40 ?h41 ?h42 ?h43 ?h44 ?h45 ?h46 ?h47 ?h48 ?h49 ?h50 ?h51 ?h52 ?h53 ?h54 ?h55 ?h56 ?h57 ?h58 ?h59 ?h60 ?h61 ?h62 ?h63 ?h64 ?h65 ?h66 ?h67 ?h68 ?h69 ?h70 ?h71 ?h72 ?h73 ?h74 ?h75 ?h76 ?h77 ?h78 ?h79 ?h80 ?h81 ?h82 ?h83 ?h84 ?h85 ?h86 ?h87 ?h88 ?h89 ?h90 ?h91 ?h92 ?h93 ?h94 ?h95 ?h96 ?h97 ?h98 ?h99 ?h100 ?h101 ?h102 ?h103
  (case h0=>k_is)
  (case h1=>k_is)
  (case h2=>k_is)
  (case h3=>k_is)
  (case h4=>k_is)
  (case h5=>k_is)
  (case h6=>k_is)
  (case h7=>k_is)
  (case h8=>k_is)
  (case h9=>k_is)
  (case h10=>k_is)
  (case h11=>k_is)
  (case h12=>k_is)
  (case h13=>k_is)
  (case h14=>k_is)
  (case h15=>k_is)
  (case h16=>k_is)
  (case h17=>k_is)
  (case h18=>k_is)
  (case h19=>k_is)
  (case h20=>k_is)
  (case h21=>k_is)
  (case h22=>k_is)
  (case h23=>k_is)
  (case h24=>k_is)
  (case h25=>k_is)
  (case h26=>k_is)
  (case h27=>k_is)
  (case h28=>k_is)
  (case h29=>k_is)
  (case h30=>k_is)
  (case h31=>k_is)
  (case h32=>k_is)
  (case h33=>k_is)
  (case h34=>k_is)
  (case h35=>k_is)
  (case h36=>k_is)
  (case h37=>k_is)
  (case h38=>k_is)
  (case h39=>k_is)
  (case h40=>k_is)
  (case h41=>k_is)
  (case h42=>k_is)
  (case h43=>k_is)
  (case h44=>k_is)
  (case h45=>k_is)
  (case h46=>k_is)
  (case h47=>k_is)
  (case h48=>k_is)
  (case h49=>k_is)
  (case h50=>k_is)
  (case h51=>k_is)
  (case h52=>k_is)
  (case h53=>k_is)
  (case h54=>k_is)
  (case h55=>k_is)
  (case h56=>k_is)
  (case h57=>k_is)
  (case h58=>k_is)
  (case h59=>k_is)
  (case h60=>k_is)
  (case h61=>k_is)
  (case h62=>k_is)
  (case h63=>k_is)
  (case h64=>k_is)
  (case h65=>k_is)
  (case h66=>k_is)
  (case h67=>k_is)
  (case h68=>k_is)
  (case h69=>k_is)
  (case h70=>k_is)
  (case h71=>k_is)
  (case h72=>k_is)
  (case h73=>k_is)
  (case h74=>k_is)
  (case h75=>k_is)
  (case h76=>k_is)
  (case h77=>k_is)
  (case h78=>k_is)
  (case h79=>k_is)
  (case h80=>k_is)
  (case h81=>k_is)
  (case h82=>k_is)
  (case h83=>k_is)
  (case h84=>k_is)
  (case h85=>k_is)
  (case h86=>k_is)
  (case h87=>k_is)
  (case h88=>k_is)
  (case h89=>k_is)
  (case h90=>k_is)
  (case h91=>k_is)
  (case h92=>k_is)
  (case h93=>k_is)
  (case h94=>k_is)
  (case h95=>k_is)
  (case h96=>k_is)
  (case h97=>k_is)
  (case h98=>k_is)
  (case h99=>k_is)
  (case h100=>k_is)
  (case h101=>k_is)
  (case h102=>k_is)
  (case h103=>k_is)
