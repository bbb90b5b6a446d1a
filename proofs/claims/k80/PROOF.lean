import PyProof.Rows.All
import Wide.All
import OpenK.AllK
import Wide.FinOn
import Lean
import PyProof.EqAt
import PyProof.EqKinds
import PyProof.TupleCall
import PyProof.NeKinds
import KE.KDictOf
import PyProof.AttrMissHeap
import PyProof.WalksMore
import PyProof.MeetsDict
import KE.KDictList
import KE.KRevIter
import PyProof.DictItemsLoops
import PyProof.DictWalks
import KE.KSortTup
import KE.KDictSum
import PyProof.SumAny
import PyProof.Conv_int_bool
import PyProof.Conv_int
import KE.KRevSl
import PyProof.MeetsStr
import PyProof.StrCalls3
import PyProof.Rows.TupDisplay
import PySem.Challenge.RW_copymeet_k80_whole_two_rounds
open PySem renaming wpAny_bind->aa,wpAny_pure->ag,sizeLine->au,starEach->bz,mainGlobals->cf,Spec->cx,compareOp->cz,sizeLine_eq->c3,FuncData->c5,wpAny_holding->da,cellsFrom->d0,binaryOp->fe,sysModules->fg,wpAny_newObj_type->fm,wpAny_mono->f7,wpAny_typeNameOfWhole_valiter->gx,foldedSetIterable->ia,wpAny_truthy_bool->ib,assignEach->iq,wpAny_call_entry->ir,wpAny_Call_Name_kw->ix,call_meetsIn->iz,wpAny_notOrdered_dict->i4,wpAny_rule->jf,wpAny_typeNameOf_valiter->jj,mem_of_lookup->jm,wpAny_callSpecial?_slot->jo,plainId_quiet->jt,NameKind->j0,tupleKind_room_in1->j3,codeAny_builtin->ka,wpAny_dictEntries->kj,wpAny_pyIter_list->km,wpAny_tryCatch->kx,dictSetDefault->kz,bootBuiltins->k9,wpAny_typeOf->lg
open List renaming getElem?_eq_some_iff->ab,length_map->ae,getElem?_map->aj,mem_cons_self->ak,mem_append_right->ao,mem_cons_of_mem->aq,size_toArray->ar,prefix_rfl->av,range->ax,mem_map->az,map_cons->a7,getElem?_set_ne->a8,mem_append->ba,mem_cons->bc,mem_singleton->bj,map_map->bq,lookup_cons->bw,all_eq_true->cg,map_append->cj,prefix_append->cw,mem_of_getElem?->cy,replicate->c4,pairwise_map->c7,length_append->c8,length_set->de,filterMap_cons->dg,getElem?_append_left->dh,length_cons->dk,mem_iff_getElem?->dr,map_congr_left->dw,mem_range->d4,pairwise_iff_getElem->d5,pairwise_cons->d7,length_take->d9,getElem_mem->ee,ext_getElem?->e8,getElem?_append_right->e9,getD_eq_getElem?_getD->fb,mem_append_left->fc,getElem?_set_self->fh,mem_filter->fi,getElem?_eq_getElem->fq,getElem?_cons_succ->ft,perm_ext_iff_of_nodup->fw,nodup_cons->gg,filter_append->gv,nodup_append->ie,take_add_one->ig,find?_cons->ij,filter_cons->iu,set_cons_succ->i6,set_cons_zero->i7,getElem?_eq_none_iff->ja,drop_eq_getElem_cons->jc,length_range->jh,toArray->jl,all_cons->jq,length_pos_iff->jv,take_length->jw,getElem?_eq_none->kg,any_cons->kh,length_drop->k0,drop_length->k6,filter_sublist->k8,append_nil->lp,filter_map->lx,sum_cons->l0
open PySem.W renaming Frag->af,keepIn->bp,fnOf->b9,codeIn->cb,nsIn->c6,findIn->kr,katRev->md
open PySem.Heap renaming get?_push_of_some->ah,lt_size->aw,get?_push_size->ay,SameBut->gd,get?_push_ne->jg,get?_update_ne->jr,size_push->jz,get?_update_self->j6,size_update->k4
open Nat renaming le_refl->ai,ne_of_lt->a9,lt_of_lt_of_le->bh,zero_le->b8,le_trans->c9,lt_irrefl->fj,lt_or_eq_of_le->fv,le_of_lt->iw,le_succ_of_le->ji,lt_succ_of_lt->ki,lt_trans->lj
open Option renaming map_eq_some_iff->bf,isSome_some->iy
open Option.some renaming inj->bg
open Bool renaming false_ne_true->bu,and_eq_true->cm,false_eq_true->dq,eq_iff_iff->ip,beq_eq_decide_eq->kc
open PySem.Value renaming none->cq,ref->dm
open PySem.Obj renaming mapSeq->cu,data_mapDictKeys->ko
open PySem.NameKind renaming free->df,cell->lu
open List.Pairwise renaming of_map->dj,nil->l8
open PyProof.Rows renaming slot_tuple_getitem->dn,get?_update_seq->ik,listUpdate_at->i3,mirror_perm->j9
open Array renaming length_toList->dt
open PySem.Heap.SameBut renaming update->dz
open PySem.Builtin.Tuple renaming tupleHashOf->d6,tupleExact->je,tupleItemsOf->kn
open PySem.F renaming slot_dict_get->d8,slot_dict_valueiterator_next->ff,entry_dict_get->f6,plainAttrs_dict->g9,plain_max_loop->jx,slot_dict_setdefault->j5
open PySem.Paired renaming length->eu
open Classical renaming propDecidable->fu
open False renaming elim->f9
open Int renaming emod_nonneg->gj,emod_lt_of_pos->gq,toNat_natCast->ic,le_refl->jd
open List.Nodup renaming length_le_of_subset->gm,idxOf_getElem->ll
open List.Perm renaming eq_of_pairwise->gu
open PySem.Around renaming under_plainId->gz
open Ne renaming symm->i8
open PySem.Builtin.Slice renaming slicePlaces->i9,sliceAdjust->ku
open PySem.Str renaming ofString->jk
open PySem.Builtin.Dict renaming updateFrom->ju
open True renaming intro->jy
open PySem.Builtin.Dict_items renaming ownsTuple->j4
open PySem.Builtin.Str renaming strSliceIndices->j7
open Array.Perm renaming refl->j8
open Sum renaming inr->k7
open Iff renaming rfl->l9
set_option Elab.async false
set_option linter.all false
set_option maxRecDepth 1000000
set_option maxHeartbeats 4000000
namespace L2
open PySem PySem.Spec PyProof.Rows
noncomputable abbrev Key:=Sum Int Str
noncomputable def tE:Key->Value->Bool
 | .inl k,v=>Value.isInt k v
 | .inr x,v=>Value.isStrOf x v
noncomputable def Pu (w:World):Key->Int
 | .inl k=>hashInt k
 | .inr x=>hashStr w x
theorem bU:∀ {k:Key} {v:Value},tE k v=true->(∃ i t,k=Sum.inl i/\v=Value.int i t)\/(∃ x t,k=k7 x/\v=Value.str x t)
 | .inl i,v,h=>by
  obtain ⟨t,e⟩:=Value.isInt_shape (k:=i) (v:=v) h;exact .inl ⟨i,t,rfl,e⟩
 | .inr x,v,h=>by
  obtain ⟨t,e⟩:=Value.isStrOf_shape (x:=x) (v:=v) h;exact .inr ⟨x,t,rfl,e⟩
theorem GL (i:Int) (t:Tok):tE (.inl i) (.int i t)=true:=by simp [tE,Value.isInt]
theorem GM (x:Str) (t:Tok):tE (.inr x) (.str x t)=true:=by simp [tE,Value.isStrOf]
theorem Pv (a b:Int):decide ((Sum.inl a:Key)=Sum.inl b)=(a == b):=by
 by_cases e:a=b
 ·subst e; simp
 ·have h:¬ (Sum.inl a:Key)=Sum.inl b:=fun q=>e (Sum.inl.inj q);rw [decide_eq_false h];exact (beq_eq_false_iff_ne.mpr e).symm
theorem Pw (a b:Str):decide ((k7 a:Key)=k7 b)=decide (a=b):=by
 by_cases e:a=b
 ·subst e; simp
 ·have h:¬ (k7 a:Key)=k7 b:=fun q=>e (Sum.inr.inj q);rw [decide_eq_false h,decide_eq_false e]
theorem Px (a:Int) (b:Str):decide ((Sum.inl a:Key)=k7 b)=false:=decide_eq_false (fun q=>nomatch q)
theorem Py (a:Str) (b:Int):decide ((k7 a:Key)=Sum.inl b)=false:=decide_eq_false (fun q=>nomatch q)
noncomputable def bN (prog:Program) (w:World):PySem.KeyKind prog w Key where
 is:=tE
 hash:=Pu w
 inj:=fun v a b ha hb=>by
  rcases bU ha with ⟨i,t,rfl,rfl⟩ | ⟨x,t,rfl,rfl⟩
  ·rcases bU hb with ⟨j,u,rfl,e⟩ | ⟨y,u,rfl,e⟩
   ·injection e with e1 _; rw [e1]
   ·exact nomatch e
  ·rcases bU hb with ⟨j,u,rfl,e⟩ | ⟨y,u,rfl,e⟩
   ·exact nomatch e
   ·injection e with e1 _; rw [e1]
 byValue:=fun k v h=>by
  rcases bU h with ⟨i,t,rfl,rfl⟩ | ⟨x,t,rfl,rfl⟩ <;> rfl
 pyHash:=fun hv h=>by
  rcases bU hv with ⟨i,t,rfl,rfl⟩ | ⟨x,t,rfl,rfl⟩
  ·exact wpAny_pyHash_int h
  ·exact wpAny_pyHash_str h
 eqBool:=fun hu hv h=>by
  rcases bU hu with ⟨i,t,rfl,rfl⟩ | ⟨x,t,rfl,rfl⟩
  ·rcases bU hv with ⟨j,u,rfl,rfl⟩ | ⟨y,u,rfl,rfl⟩
   ·rw [Pv] at h; exact wpAny_eqBool_int h
   ·rw [Px] at h; exact SeqAt.EqAt.int_str i t y u _ _ _ _ h
  ·rcases bU hv with ⟨j,u,rfl,rfl⟩ | ⟨y,u,rfl,rfl⟩
   ·rw [Py] at h; exact SeqAt.EqAt.str_int x t j u _ _ _ _ h
   ·rw [Pw] at h; exact wpAny_eqBool_str h
 «strs»:=fun k x t v h=>by
  rcases bU h with ⟨i,u,rfl,e⟩ | ⟨y,u,rfl,e⟩
  ·exact nomatch e
  ·injection e with e1 _;subst e1;cases v <;> rfl
theorem BF (prog:Program) (w:World) (i:Int) (t:Tok):(bN prog w).is (.inl i) (.int i t)=true:=GL i t
theorem BG (prog:Program) (w:World) (x:Str) (t:Tok):(bN prog w).is (.inr x) (.str x t)=true:=GM x t
inductive V where
 | non | bl (b:Bool) | int (i:Int) | str (x:Str) | byt (b:Array UInt8) | flt (b:UInt64) | ref (a:Addr) | ty (n:String)
 deriving DecidableEq
noncomputable def RelV:V->Value->Prop
 | .non,u=>u=cq
 | .bl b,u=>u=Value.bool b
 | .int i,u=>∃ t,u=Value.int i t
 | .str x,u=>∃ t,u=Value.str x t
 | .byt b,u=>∃ t,u=Value.bytes b t
 | .flt b,u=>∃ t,u=Value.float b t
 | .ref a,u=>u=dm a
 | .ty n,u=>u=Value.type n
noncomputable abbrev aN:List V->List Value->Prop:=Paired RelV
theorem aN.length {xs:List V} {us:List Value} (r:aN xs us):xs.length=us.length:=eu r
theorem aN.get:∀ {xs:List V} {us:List Value} {i:Nat} {x:V},aN xs us->xs[i]?=some x->∃ u,us[i]?=some u/\RelV x u
 | _,_,_,_,.nil,e=>by simp at e
 | _,_,0,_,.cons r _,e=>by simp at e; subst e; exact ⟨_,rfl,r⟩
 | _,_,i+1,x,.cons _ t,e=>by
  obtain ⟨u,h1,h2⟩:=aN.get (i:=i) (x:=x) t (by simpa using e)
  exact ⟨u,by simpa using h1,h2⟩
theorem aN.set {x:V} {u:Value} (r:RelV x u):∀ {xs:List V} {us:List Value} (i:Nat),aN xs us->aN (xs.set i x) (us.set i u)
 | _,_,_,.nil=>.nil
 | _,_,0,.cons _ t=>.cons r t
 | _,_,i+1,.cons q t=>.cons q (aN.set r i t)
theorem aN.append:∀ {xs ys:List V} {us ws:List Value},aN xs us->aN ys ws->aN (xs++ys) (us++ws)
 | _,_,_,_,.nil,s=>s
 | _,_,_,_,.cons r t,s=>.cons r (aN.append t s)
theorem aN.take:∀ {xs:List V} {us:List Value} (n:Nat),aN xs us->aN (xs.take n) (us.take n)
 | _,_,0,_=>.nil
 | _,_,_+1,.nil=>.nil
 | _,_,n+1,.cons r t=>.cons r (aN.take n t)
theorem aN.drop:∀ {xs:List V} {us:List Value} (n:Nat),aN xs us->aN (xs.drop n) (us.drop n)
 | _,_,0,r=>r
 | _,_,_+1,.nil=>.nil
 | _,_,n+1,.cons _ t=>aN.drop n t
noncomputable def sG:Option V->Option Value->Prop
 | some v,some u=>RelV v u
 | none,none=>True
 | _,_=>False
noncomputable def KV {κ:Type}:List (κ×V)->List (κ×Value)->Prop:=Paired fun (p:κ×V) (q:κ×Value)=>p.1=q.1/\RelV p.2 q.2
noncomputable def kV:Key->V
 | .inl i=>.int i
 | .inr x=>.str x
inductive HO where
 /-- a list -/
 | lst (xs:List V)
 /-- a tuple (never changes) -/
 | tup (xs:List V)
 /-- a dict whose keys are ints and texts; one whose keys are tuples of ints and texts (the empty one is both) -/
 | dK (kvs:List (Key×V)) | dT (kvs:List (List Key×V))
 /-- a set of ints: its members,its size -/
 | set (S:Int->Bool) (n:Nat)
 /-- an instance of the class at C,its dict at dx,its attributes -/
 | ins (C dx:Addr) (fs:List (Str×V))
 /-- the dict of the instance at x -/
 | own (x:Addr)
 /-- the dict of an exception -/
 | xd (fs:List (Str×V))
 /-- a bound method,f of x -/
 | met (f x:Addr)
 /-- a range object lo,lo+1,.. below hi -/
 | rng (lo hi:Int)
 /-- a thing that is known to the object (the script; a dict while a loop walks it): read,never written while it is so -/
 | frz (o:Obj) (u:HO)
 /-- a code object's table -/
 | tbl (ps:Array Value)
 /-- any other thing,by what is true of its one object (a def of one's own: SetO a S n:=HO.ext fun h=>..) -/
 | ext (φ:Heap->Prop)
noncomputable abbrev Hp:=Addr->Option HO
noncomputable def upd (H:Hp) (a:Addr) (o:HO):Hp:=fun b=>if b=a then some o else H b
theorem bJ {H:Hp} {a:Addr} {o:HO}:upd H a o a=some o:=by unfold upd; rw [if_pos rfl]
theorem bG {H:Hp} {a b:Addr} {o:HO} (h:b≠a):upd H a o b=H b:=by unfold upd; rw [if_neg h]
theorem RT {H:Hp} {a b:Addr} {o u:HO} (h:H a=some o) (h':H b=some u) (d:o≠u):a≠b:=by
 intro e; subst e; rw [h] at h'; exact d (bg h')
theorem cN {H:Hp} {a b:Addr} {o:HO} (h:H a=some o) (h':H b=none):a≠b:=by
 intro e; subst e; rw [h] at h'; cases h'
noncomputable def nB (h:Heap) (a:Addr) (items:Array Value):Prop:=∃ o,h.get? a=some o/\o.cls=.type "tuple" /\ (∃ n,o.data=.seq items n)/\o.dict=none
theorem nB.is {h:Heap} {a:Addr} {items:Array Value} (x:nB h a items):PyProof.Rows.IsTup h a items:=let ⟨o,h1,h2,h3,_⟩:=x; ⟨o,h1,h2,h3⟩
theorem nB.lt {h:Heap} {a:Addr} {items:Array Value} (x:nB h a items):a < h.objs.size:=let ⟨_,h1,_⟩:=x; aw h1
theorem nB.new (h:Heap) (items:Array Value):nB (h.push { cls:=.type "tuple",data:=.seq items 0 }) h.objs.size items:=⟨_,ay _ rfl,rfl,⟨_,rfl⟩,rfl⟩
section
variable (P:Program) (w:World)
noncomputable def cO (H:Hp) (h:Heap) (a:Addr):HO->Prop
 | .lst xs=>xs.length<=au/\∃ (its:List Value) (n:Nat),aN xs its/\h.get? a=some { cls:=.type "list",data:=.seq its.toArray n }
 | .tup xs=>xs.length<=au/\∃ its:List Value,aN xs its/\nB h a its.toArray
 | .dK kvs=>kvs.length<=au/\(a == fg)=false/\∃ vs,KV kvs vs/\h.DictOf (bN P w) a vs
 | .dT kvs=>kvs.length<=au/\(a == fg)=false/\∃ xs:List (List Key×Addr×Value),
   Paired (fun (p:List Key×V) (q:List Key×Addr×Value)=>p.1=q.1/\H q.2.1=some (.tup (p.1.map kV))/\RelV p.2 q.2.2) kvs xs/\
   ∃ o es ep,h.get? a=some o/\o.ExactDict/\o.data=.dict es ep/\es.toList=xs.map (entryOfKey (tupleKind (bN P w)))/\(xs.map (·.1)).Nodup
 | .set S n=>h.SetOf (intKind P w) a S n
 | .ins C dx fs=>H dx=some (.own a)/\fs.length<=1000/\dx≠a/\h.get? a=some (PySem.W.instObj C dx)/\
   ∃ mA,h.Ns1 dx mA/\(∀ f,sG (fs.lookup f) (mA f))/\PySem.Within mA (fs.map (·.1))
 | .own _=>∃ o,h.get? a=some o
 | .xd fs=>∃ mA,h.Ns1 a mA/\∀ f,sG (fs.lookup f) (mA f)
 | .rng lo hi=>∃ t u v,h.get? a=some { cls:=.type "range",data:=.fields #[.int lo t,.int hi u,.int 1 v] }
 | .frz o u=>h.get? a=some o/\cO H h a u
 | .tbl ps=>h.get? a=some { cls:=.none,data:=.fields ps }
 | .met f x=>h.get? a=some (PySem.W.methodObj (.ref f) (.ref x))
 | .ext φ=>φ h/\(∃ o,h.get? a=some o)/\∀ h1 h2:Heap,φ h1->(∀ o,h1.get? a=some o->h2.get? a=some o)->φ h2
noncomputable def HOk (H:Hp) (h:Heap):Prop:=∀ a o,H a=some o->cO P w H h a o
end
section
variable {P:Program} {w:World} {H H':Hp} {h h':Heap} {a:Addr} {o:HO}
theorem cO.lt (x:cO P w H h a o):a < h.objs.size:=by
 cases o with
 | lst xs=>obtain ⟨_,_,_,_,e⟩:=x; exact aw e
 | tup xs=>obtain ⟨_,_,_,p⟩:=x; exact nB.lt p
 | dK kvs=>obtain ⟨_,_,_,_,o,_,_,e,_⟩:=x; exact aw e
 | dT kvs=>obtain ⟨_,_,_,_,o,_,_,e,_⟩:=x; exact aw e
 | set S n=>obtain ⟨o,_,_,_,e,_⟩:=x; exact aw e
 | ins C dx fs=>obtain ⟨_,_,_,e,_⟩:=x; exact aw e
 | own y=>obtain ⟨_,e⟩:=x; exact aw e
 | xd fs=>obtain ⟨_,⟨_,_,_,e,_⟩,_⟩:=x; exact aw e
 | rng lo hi=>obtain ⟨_,_,_,e⟩:=x; exact aw e
 | frz ob u=>obtain ⟨e,_⟩:=x; exact aw e
 | tbl ps=>exact aw (show h.get? a=some _ from x)
 | met f y=>exact aw (show h.get? a=some _ from x)
 | ext φ=>obtain ⟨_,⟨_,e⟩,_⟩:=x; exact aw e
theorem Paired.mapP {α β:Type} {F G:α->β->Prop}:∀ {l₁:List α} {l₂:List β},Paired F l₁ l₂->(∀ a b,F a b->G a b)->Paired G l₁ l₂
 | _,_,.nil,_=>.nil
 | _,_,.cons r t,f=>.cons (f _ _ r) (Paired.mapP t f)
theorem cO.stay (x:cO P w H h a o) (k:∀ b u,(b=a\/H b=some (.own a))->h.get? b=some u->h'.get? b=some u)
  (ho:∀ b,H b=some (.own a)->H' b=some (.own a)) (ht:∀ b xs,H b=some (.tup xs)->H' b=some (.tup xs)):cO P w H' h' a o:=by
 induction o with
 | lst xs=>obtain ⟨z,its,n,r,e⟩:=x; exact ⟨z,its,n,r,k _ _ (.inl rfl) e⟩
 | tup xs=>obtain ⟨z,its,r,ob,e,c⟩:=x; exact ⟨z,its,r,ob,k _ _ (.inl rfl) e,c⟩
 | dK kvs=>obtain ⟨z,y,vs,r,ob,es,ep,e,c⟩:=x; exact ⟨z,y,vs,r,ob,es,ep,k _ _ (.inl rfl) e,c⟩
 | dT kvs=>
  obtain ⟨z,y,xs,r,ob,es,ep,e,c⟩:=x;exact ⟨z,y,xs,Paired.mapP r fun p q z=>⟨z.1,ht _ _ z.2.1,z.2.2⟩,ob,es,ep,k _ _ (.inl rfl) e,c⟩
 | set S n=>obtain ⟨ob,es,ep,t,e,c⟩:=x; exact ⟨ob,es,ep,t,k _ _ (.inl rfl) e,c⟩
 | ins C dx fs=>
  obtain ⟨d,z,ne,e,mA,⟨od,es,ep,e2,c⟩,r⟩:=x;exact ⟨ho _ d,z,ne,k _ _ (.inl rfl) e,mA,⟨od,es,ep,k _ _ (.inr d) e2,c⟩,r⟩
 | own y=>obtain ⟨ob,e⟩:=x; exact ⟨ob,k _ _ (.inl rfl) e⟩
 | xd fs=>obtain ⟨mA,⟨od,es,ep,e,c⟩,r⟩:=x; exact ⟨mA,⟨od,es,ep,k _ _ (.inl rfl) e,c⟩,r⟩
 | rng lo hi=>obtain ⟨t,u,v,e⟩:=x; exact ⟨t,u,v,k _ _ (.inl rfl) e⟩
 | frz ob u ih=>obtain ⟨e,q⟩:=x; exact ⟨k _ _ (.inl rfl) e,ih q⟩
 | tbl ps=>
  have e:h.get? a=some { cls:=.none,data:=.fields ps }:=x
  show h'.get? a=some { cls:=.none,data:=.fields ps }
  exact k a _ (.inl rfl) e
 | met f y=>
  have e:h.get? a=some (PySem.W.methodObj (.ref f) (.ref y)):=x
  show h'.get? a=some (PySem.W.methodObj (.ref f) (.ref y))
  exact k a _ (.inl rfl) e
 | ext φ=>obtain ⟨p,⟨o,e⟩,st⟩:=x; exact ⟨st _ _ p fun o q=>k _ _ (.inl rfl) q,⟨o,k _ _ (.inl rfl) e⟩,st⟩
theorem HOk.lt (x:HOk P w H h) (e:H a=some o):a < h.objs.size:=(x a o e).lt
theorem HOk.fresh (x:HOk P w H h) (e:h.objs.size<=a):H a=none:=by
 cases q:H a with
 | none=>rfl
 | some u=>exact absurd (bh (x.lt q) e) (fj _)
theorem HOk.kept (x:HOk P w H h) (k:∀ b u,h.get? b=some u->h'.get? b=some u):HOk P w H h':=fun a o e=>
 (x a o e).stay (fun b u _ q=>k b u q) (fun _ q=>q) fun _ _ q=>q
theorem HOk.laid (x:HOk P w H h) (k:∀ b u,h.get? b=some u->h'.get? b=some u) (hp:h.objs.size<=a) (new:cO P w (upd H a o) h' a o):HOk P w (upd H a o) h':=fun b u e=>by
 have hn:=x.fresh hp
 by_cases hb:b=a
 ·subst hb; rw [bJ] at e; cases e; exact new
 ·rw [bG hb] at e;exact (x b u e).stay (fun c v _ q=>k c v q) (fun c q=>by rw [bG (cN q hn)]; exact q) fun c xs q=>by rw [bG (cN q hn)]; exact q
end
noncomputable def Rd (H:Hp) (a:Addr) (u:HO):Prop:=H a=some u\/∃ o,H a=some (.frz o u)
theorem Rd.ok {P:Program} {w:World} {H:Hp} {h:Heap} {a:Addr} {u:HO} (r:Rd H a u) (x:HOk P w H h):cO P w H h a u:=by
 rcases r with r | ⟨o,r⟩
 ·exact x a u r
 ·obtain ⟨_,q⟩:=x a _ r;exact q
noncomputable def Mut:Option HO->Prop
 | some (.lst _)=>True
 | some (.dK _)=>True
 | some (.dT _)=>True
 | some (.set _ _)=>True
 | some (.ins _ _ _)=>True
 | some (.ext _)=>True
 | _=>False
section
variable {P:Program} {w:World} {H:Hp} {h h':Heap} {x e:Addr} {o':HO}
theorem HOk.write (ok:HOk P w H h) (mu:Mut (H x)) (he:e=x\/H e=some (.own x)) (k:∀ b u,b≠e->h.get? b=some u->h'.get? b=some u) (heo:∃ u,h'.get? e=some u)
  (new:cO P w (upd H x o') h' x o'):HOk P w (upd H x o') h':=fun b u q=>by
 have nown:∀ c y,H c=some (.own y)->c≠x:=fun c y r z=>by subst z; rw [r] at mu; exact mu
 have ntup:∀ c xs,H c=some (.tup xs)->c≠x:=fun c xs r z=>by subst z; rw [r] at mu; exact mu
 by_cases hb:b=x
 ·subst hb; rw [bJ] at q; cases q; exact new
 ·rw [bG hb] at q
  by_cases hbe:b=e
  ·have q':H b=some (.own x):=by
    rcases he with z | z
    ·exact absurd (hbe.trans z) hb
    ·rw [hbe]; exact z
   rw [q] at q'; cases q';obtain ⟨v,hv⟩:=heo;exact ⟨v,by rw [hbe]; exact hv⟩
  ·refine (ok b u q).stay (fun c v hc r=>k c v ?_ r) (fun c r=>by rw [bG (nown c b r)]; exact r) fun c xs r=>by rw [bG (ntup c xs r)]; exact r
   rcases hc with rfl | hc
   ·exact hbe
   ·rintro rfl;rcases he with z | z
    ·exact nown c b hc z
    ·rw [hc] at z; cases z; exact hb rfl
end
structure Un (fs ex:List Addr) (H H':Hp) (h h':Heap):Prop where
 keep:∀ b o,h.get? b=some o->H b=none->b∉fs->b∉ex->h'.get? b=some o
 slot:∀ b o,h.get? b=some o->H b=none->b∈fs->b∉ex->∃ sl,h'.get? b=some { o with slots:=sl }
 free:∀ b o,h.get? b=some o->H b=none->b∉ex->H' b=none
 there:∀ b o,h.get? b=some o->b∉ex->∃ o',h'.get? b=some o'
 tups:∀ b xs,H b=some (.tup xs)->H' b=some (.tup xs)
 frzs:∀ b o u,H b=some (.frz o u)->H' b=some (.frz o u)
 tbls:∀ b ps,H b=some (.tbl ps)->∃ more,H' b=some (.tbl (ps++more))
section
variable {fs fs' ex ex':List Addr} {H H1 H2:Hp} {h h1 h2 h':Heap} {a x e:Addr} {o:HO}
theorem Un.any (u:Un fs ex H H1 h h1) {b:Addr} {ob:Obj} (q:h.get? b=some ob) (n:H b=none) (hx:b∉ex):∃ sl,h1.get? b=some { ob with slots:=sl }:=by
 by_cases hb:b∈fs
 ·exact u.slot b ob q n hb hx
 ·exact ⟨ob.slots,u.keep b ob q n hb hx⟩
theorem Un.kept (k:∀ b u,h.get? b=some u->h'.get? b=some u):Un fs ex H H h h':=
 ⟨fun b ob q _ _ _=>k b ob q,fun b ob q _ _ _=>⟨ob.slots,k b ob q⟩,fun _ _ _ n _=>n,fun b ob q _=>⟨ob,k b ob q⟩,fun _ _ q=>q,fun _ _ _ q=>q,fun _ ps q=>⟨#[],by rw [q]; simp⟩⟩
theorem Un.refl:Un fs ex H H h h:=Un.kept fun _ _ q=>q
theorem Un.laid (k:∀ b u,h.get? b=some u->h'.get? b=some u) (hp:h.objs.size<=a) (hn:H a=none):Un fs ex H (upd H a o) h h' where
 keep:=fun b u q _ _ _=>k b u q
 slot:=fun b u q _ _ _=>⟨u.slots,k b u q⟩
 free:=fun b u q n _=>by rw [bG (a9 (bh (aw q) hp))]; exact n
 there:=fun b u q _=>⟨u,k b u q⟩
 tups:=fun b xs q=>by rw [bG (cN q hn)]; exact q
 frzs:=fun b u xs q=>by rw [bG (cN q hn)]; exact q
 tbls:=fun b ps q=>⟨#[],by rw [bG (cN q hn),q]; simp⟩
theorem Un.write (mu:Mut (H x)) (he:e=x\/H e=some (.own x)) (k:∀ b u,b≠e->h.get? b=some u->h'.get? b=some u) (heo:∃ u,h'.get? e=some u):Un fs ex H (upd H x o) h h':=by
 have hx:∀ b,H b=none->b≠x:=fun b n z=>by subst z; rw [n] at mu; exact mu
 have hb:∀ b,H b=none->b≠e:=fun b n z=>by
  subst z;rcases he with r | r
  ·exact hx b n r
  ·rw [n] at r; cases r
 have hm:∀ b u,H b=some u->¬ Mut (some u)->b≠x:=fun b u q nm z=>by subst z; rw [q] at mu; exact nm mu
 refine ⟨fun b u q n _ _=>k b u (hb b n) q,fun b u q n _ _=>⟨u.slots,k b u (hb b n) q⟩,fun b u q n _=>by rw [bG (hx b n)]; exact n,fun b u q _=>?_,
  fun b xs q=>by rw [bG (hm b _ q fun z=>z)]; exact q,fun b u xs q=>by rw [bG (hm b _ q fun z=>z)]; exact q,fun b ps q=>⟨#[],by rw [bG (hm b _ q fun z=>z),q]; simp⟩⟩
 by_cases hbe:b=e
 ·subst hbe; exact heo
 ·exact ⟨u,k b u hbe q⟩
end
noncomputable def trk (h:Heap) (H:Hp):List Addr:=(ax h.objs.size).filter fun a=>(H a).isSome
noncomputable def Ab (h:Heap) (H:Hp):Heap:=PySem.W.hideAll h (trk h H)
theorem GN (h:Heap) (H:Hp):(Ab h H).objs.size=h.objs.size:=PySem.W.hideAll_size _ _
theorem Ji {h:Heap} {H:Hp} {b:Addr} {o:Obj} (e:h.get? b=some o) (n:H b=none):(Ab h H).get? b=some o:=
 PySem.W.hideAll_get _ e fun hm=>by
  have q:(H b).isSome=true:=(fi.mp hm).2;rw [n] at q; simp at q
theorem MQ {h:Heap} {H:Hp} {b:Addr} {o:Obj} (e:(Ab h H).get? b=some o):h.get? b=some o/\H b=none:=by
 have e':h.get? b=some o:=PySem.W.of_hideAll (trk h H) e;refine ⟨e',?_⟩;cases q:H b with
 | none=>rfl
 | some x=>
  have hm:b∈trk h H:=fi.mpr ⟨d4.mpr (aw e'),by simp [q]⟩;have z:(Ab h H).get? b=none:=PySem.W.hideAll_none (trk h H) hm;rw [z] at e; cases e
noncomputable def MR (g h:Heap) (L:Addr):List (Addr×Obj):=(ax h.objs.size).filterMap fun a=>if a=L\/(g.get? a).isSome=true then none else (h.get? a).map fun o=>(a,o)
noncomputable def rest (g h:Heap) (L d:Addr):List (Addr×Obj):=(MR g h L).filter fun p=>decide (p.1≠d)
structure Mod (K:af) (mg:Str->Option Value) (base:Heap):Prop where
 kin:K.In base
 glob:base.Ns cf mg
 blt:∃ mb,base.Ns builtinsNs mb/\∀ x:Str,x≠"__name__" -> mb x=k9 x
 nolimit:base.NoLimit
structure Cx where
 prog:Program
 w:World
 K:af
 mg:Str->Option Value
 base:Heap
 A:Around
 N:List Str
 s₀:Shared
 H₀:Hp
 env:Env
 outer:List Env
 stack:List Env
 ex:List Addr
 fn:Str->Bool
 calm:Bool
 pn:List (Addr×Obj)
 xe:Value->Shared->Prop
noncomputable def frs (l:List Env):List Addr:=l.filterMap (·.frame)
noncomputable abbrev Cx.fs (X:Cx):List Addr:=frs X.outer
noncomputable def Vis (sc:Scope) (x:Str):Prop:=sc.names.lookup x=some .local\/sc.names.lookup x=some .cell\/sc.names.lookup x=some .free
noncomputable def Loc (sc:Scope) (x:Str):Prop:=sc.names.lookup x=some .local\/sc.names.lookup x=some .cell
noncomputable def Look (env:Env) (h:Heap) (m:Str->Option Value) (x:Str) (u:Value):Prop:=
 (env.kindOf x=some .local/\m x=some u)\/((env.kindOf x=some .cell\/env.kindOf x=some .free)/\∃ c,env.cells.lookup x=some c/\h.IsCell c (some u))
structure Cx.Ok (X:Cx):Prop where
 mod:Mod X.K X.mg X.base
 kind:X.env.scope.kind=.function
 glob:X.env.globals=cf
 blt:X.env.builtins=builtinsNs
 above:X.s₀.heap.objs.size<=X.env.locals
 inj:∀ x y c,X.env.cells.lookup x=some c->X.env.cells.lookup y=some c->x=y
 has:∀ x,(X.env.kindOf x=some .cell\/X.env.kindOf x=some .free)->∃ c,X.env.cells.lookup x=some c
 cab:∀ x c,X.fn x=true->X.env.cells.lookup x=some c->X.s₀.heap.objs.size<=c
 hd:X.calm=true->X.A.handled=none
 frames:X.A.frames=some X.stack
 stk:X.stack=X.outer\/(X.stack=X.env :: X.outer/\X.env.frame=some X.env.locals)
 exf:∀ b∈X.ex,b≠X.env.locals/\∀ x c,X.env.cells.lookup x=some c->c≠b
 bs:∀ b o,X.base.get? b=some o->X.s₀.heap.get? b=some o/\X.H₀ b=none
 bsz:X.base.objs.size<=X.s₀.heap.objs.size
 noex:∀ b o,X.base.get? b=some o->b∉X.ex
 exfs:∀ b∈X.ex,b∉X.fs
 funs:X.s₀.heap.FunFrames X.base X.outer
 frf:∀ b∈X.fs,X.H₀ b=none
structure Inv (X:Cx) (pins:List (Addr×Obj)) (σ:List (Option V)) (H:Hp) (s:Shared):Prop where
 ok:X.Ok
 os:s.os=X.s₀.os
 bare:AllBare s.gens
 base:Un X.fs X.ex X.H₀ H X.s₀.heap s.heap
 loc:∃ m,s.heap.Ns X.env.locals m/\∀ (i:Nat) (x:Str) (v:V),X.N[i]?=some x->σ[i]?=some (some v)->Vis X.env.scope x->∃ u,RelV v u/\Look X.env s.heap m x u
 cell:∀ x c,X.env.cells.lookup x=some c->∃ v,s.heap.IsCell c v
 free:H X.env.locals=none
 freeC:∀ x c,X.env.cells.lookup x=some c->H c=none
 pin:∀ p∈X.pn++pins,s.heap.get? p.1=some p.2/\H p.1=none/\p.1≠X.env.locals/\p.1∉X.fs/\∀ v,p.2.data≠.cell v
 hok:HOk X.prog X.w H s.heap
 len:σ.length=X.N.length
section
variable {X:Cx} {pins:List (Addr×Obj)} {σ:List (Option V)} {H H':Hp} {s:Shared} {h':Heap}
theorem Cx.Ok.nofr (ok:X.Ok) {b:Addr} {o:Obj} (e:X.base.get? b=some o):b∉X.fs:=fun hb=>by
 have:=(ok.funs.mem hb).1;rw [e] at this; cases this
theorem Inv.bs (I:Inv X pins σ H s):∀ b o,X.base.get? b=some o->s.heap.get? b=some o/\H b=none:=fun b o e=>
 ⟨I.base.keep b o (I.ok.bs b o e).1 (I.ok.bs b o e).2 (I.ok.nofr e) (I.ok.noex b o e),I.base.free b o (I.ok.bs b o e).1 (I.ok.bs b o e).2 (I.ok.noex b o e)⟩
theorem Inv.bk (I:Inv X pins σ H s):∀ b o,X.base.get? b=some o->s.heap.get? b=some o:=fun b o e=>(I.bs b o e).1
theorem Inv.mod (I:Inv X pins σ H s):Mod X.K X.mg X.base:=I.ok.mod
theorem Inv.kIn (I:Inv X pins σ H s):X.K.In s.heap:=I.ok.mod.kin.keeps I.bk
theorem Inv.lt (I:Inv X pins σ H s):X.env.locals < s.heap.objs.size:=let ⟨_,hn,_⟩:=I.loc; hn.lt
theorem Inv.sz (I:Inv X pins σ H s):X.s₀.heap.objs.size<=s.heap.objs.size:=c9 I.ok.above (iw I.lt)
theorem Inv.nofs (I:Inv X pins σ H s) {a:Addr} (h:s.heap.objs.size<=a):a∉X.fs:=fun hb=>by
 obtain ⟨_,o,ho,_⟩:=I.ok.funs.mem hb;exact absurd (bh (aw ho) (c9 I.sz h)) (fj _)
theorem Inv.cne (I:Inv X pins σ H s):∀ x c,X.env.cells.lookup x=some c->c≠X.env.locals:=fun x c e z=>by
 obtain ⟨v,o,ho,hd⟩:=I.cell x c e;obtain ⟨m,⟨o',es,ep,ho',hd',_⟩,_⟩:=I.loc;rw [z,ho'] at ho; cases ho; rw [hd'] at hd; cases hd
theorem Inv.funs (I:Inv X pins σ H s):s.heap.FunFrames X.base X.outer:=by
 have all:∀ (l:List Env),(∀ b∈frs l,b∈X.fs)->X.s₀.heap.FunFrames X.base l->s.heap.FunFrames X.base l:=by
  intro l
  induction l with
  | nil=>intro _ _; trivial
  | cons env r ih=>
   intro hs hl;obtain ⟨hk,⟨L,o,hf,hn,ho,hd⟩,hr⟩:=hl;have hL:L∈X.fs:=hs L (by unfold frs; rw [dg,hf]; exact ak);obtain ⟨sl,e⟩:=I.base.slot L o ho (I.ok.frf L hL) hL fun z=>I.ok.exfs L z hL;exact ⟨hk,⟨L,_,hf,hn,e,hd⟩,ih (fun b hb=>hs b (by unfold frs; rw [dg,hf]; exact aq _ hb)) hr⟩
 exact all X.outer (fun _ hb=>hb) I.ok.funs
theorem Inv.stack (I:Inv X pins σ H s):s.heap.FunFrames X.base X.stack:=by
 rcases I.ok.stk with e | ⟨e,hf⟩
 ·rw [e]; exact I.funs
 ·rw [e];obtain ⟨m,hn,_⟩:=I.loc;refine .cons (by rw [I.ok.kind]; decide) hf hn ?_ I.funs;exact Heap.get?_none_of_le (c9 I.ok.bsz I.ok.above)
theorem Inv.stkSub (I:Inv X pins σ H s):∀ b∈frs X.stack,b∈X.env.locals :: X.fs:=fun b hb=>by
 rcases I.ok.stk with e | ⟨e,hf⟩
 ·rw [e] at hb; exact aq _ hb
 ·rw [e] at hb;unfold frs at hb;rw [dg,hf] at hb;exact hb
theorem Inv.stkFree (I:Inv X pins σ H s):∀ b∈frs X.stack,H b=none:=fun b hb=>by
 rcases bc.mp (I.stkSub b hb) with e | hb
 ·rw [e]; exact I.free
 ·obtain ⟨_,o,ho,_⟩:=I.ok.funs.mem hb;exact I.base.free b o ho (I.ok.frf b hb) fun z=>I.ok.exfs b z hb
theorem Inv.step {g':Array GenState} {t':Nat} {d':Drawn} {ch:List Addr} (I:Inv X pins σ H s)
  (hch:∀ b∈ch,(b∈X.ex\/X.s₀.heap.objs.size<=b)/\b≠X.env.locals/\(∀ x c,X.env.cells.lookup x=some c->c≠b)/\∀ p∈X.pn++pins,p.1≠b)
  (keep:∀ b o,b≠X.env.locals->b∉X.fs->b∉ch->s.heap.get? b=some o->H b=none->h'.get? b=some o)
  (slot:∀ b o,b≠X.env.locals->b∈X.fs->b∉ch->s.heap.get? b=some o->H b=none->∃ sl,h'.get? b=some { o with slots:=sl }) (free:∀ b o,b∉ch->s.heap.get? b=some o->H b=none->H' b=none)
  (there:∀ b o,b∉ch->s.heap.get? b=some o->∃ o',h'.get? b=some o')
  (tups:∀ b xs,H b=some (.tup xs)->H' b=some (.tup xs)) (frzs:∀ b o u,H b=some (.frz o u)->H' b=some (.frz o u)) (tbls:∀ b ps,H b=some (.tbl ps)->∃ more,H' b=some (.tbl (ps++more)))
  (ns:∀ m,s.heap.Ns X.env.locals m->h'.Ns X.env.locals m) (hok:HOk X.prog X.w H' h') (hg:AllBare g'):
  Inv X pins σ H' { s with heap:=h',gens:=g',drawn:=d',toks:=t' }:=by
 have neL:∀ b o,X.s₀.heap.get? b=some o->b≠X.env.locals:=fun b o e=>a9 (bh (aw e) I.ok.above);have neC:∀ b o,X.s₀.heap.get? b=some o->b∉X.ex->b∉ch:=fun b o e hx hb=>by
  rcases (hch b hb).1 with z | z
  ·exact hx z
  ·exact absurd (bh (aw e) z) (fj _)
 have cellK:∀ x c,X.env.cells.lookup x=some c->∀ v,s.heap.IsCell c v->h'.IsCell c v:=fun x c e v ⟨o,ho,hd⟩=>by
  have nch:c∉ch:=fun z=>(hch c z).2.2.1 x c e rfl
  by_cases hc:c∈X.fs
  ·obtain ⟨sl,q⟩:=slot c o (I.cne x c e) hc nch ho (I.freeC x c e);exact ⟨_,q,hd⟩
  ·exact ⟨o,keep c o (I.cne x c e) hc nch ho (I.freeC x c e),hd⟩
 refine ⟨I.ok,I.os,hg,⟨fun b o e n hb hx=>?_,fun b o e n hb hx=>?_,fun b o e n hx=>?_,fun b o e hx=>?_,fun b xs e=>tups b xs (I.base.tups b xs e),fun b o xs e=>frzs b o xs (I.base.frzs b o xs e),fun b ps e=>?_⟩,?_,fun x c e=>?_,?_,fun x c e=>?_,fun p hp=>?_,hok,I.len⟩
 ·exact keep b o (neL b o e) hb (neC b o e hx) (I.base.keep b o e n hb hx) (I.base.free b o e n hx)
 ·obtain ⟨sl,e1⟩:=I.base.slot b o e n hb hx;obtain ⟨sl',e2⟩:=slot b _ (neL b o e) hb (neC b o e hx) e1 (I.base.free b o e n hx);exact ⟨sl',e2⟩
 ·obtain ⟨o',e1⟩:=I.base.there b o e hx;exact free b o' (neC b o e hx) e1 (I.base.free b o e n hx)
 ·obtain ⟨o',e1⟩:=I.base.there b o e hx;exact there b o' (neC b o e hx) e1
 ·obtain ⟨m1,e1⟩:=I.base.tbls b ps e;obtain ⟨m2,e2⟩:=tbls b _ e1;exact ⟨m1++m2,by rw [e2,Array.append_assoc]⟩
 ·obtain ⟨m,hn,hl⟩:=I.loc;refine ⟨m,ns m hn,fun i x v e1 e2 e3=>?_⟩;obtain ⟨u,r,l⟩:=hl i x v e1 e2 e3;refine ⟨u,r,?_⟩;rcases l with l | ⟨k,c,e,z⟩
  ·exact .inl l
  ·exact .inr ⟨k,c,e,cellK x c e _ z⟩
 ·obtain ⟨v,z⟩:=I.cell x c e;exact ⟨v,cellK x c e v z⟩
 ·obtain ⟨m,⟨o,_,_,ho,_⟩,_⟩:=I.loc;exact free _ o (fun z=>(hch _ z).2.1 rfl) ho I.free
 ·obtain ⟨v,o,ho,hd⟩:=I.cell x c e;exact free c o (fun z=>(hch c z).2.2.1 x c e rfl) ho (I.freeC x c e)
 ·obtain ⟨e,n,ne,nf,d⟩:=I.pin p hp;have nch:p.1∉ch:=fun z=>(hch p.1 z).2.2.2 p hp rfl;exact ⟨keep p.1 p.2 ne nf nch e n,free p.1 p.2 nch e n,ne,nf,d⟩
theorem Inv.un {t':Nat} (I:Inv X pins σ H s) (u:Un X.fs [] H H' s.heap h') (hok:HOk X.prog X.w H' h'):Inv X pins σ H' { s with heap:=h',toks:=t' }:=by
 obtain ⟨m,⟨o,es,ep,ho,r⟩,_⟩:=id I.loc;obtain ⟨sl,hL⟩:=u.any ho I.free (by simp);exact I.step (g':=s.gens) (d':=s.drawn) (ch:=[]) (fun _ z=>nomatch z) (fun b o _ hb _ e n=>u.keep b o e n hb (by simp)) (fun b o _ hb _ e n=>u.slot b o e n hb (by simp)) (fun b o _ e n=>u.free b o e n (by simp)) (fun b o _ e=>u.there b o e (by simp)) u.tups u.frzs u.tbls (fun m' hm=>by
  obtain ⟨o',es',ep',ho',r'⟩:=hm;rw [ho] at ho'; cases ho';exact ⟨_,es',ep',hL,r'⟩) hok I.bare
theorem Inv.call {g':Array GenState} {t':Nat} {d':Drawn} {ch:List Addr} (I:Inv X pins σ H s) (u:Un (frs X.stack) ch H H' s.heap h') (hok:HOk X.prog X.w H' h') (hg:AllBare g')
  (hch:∀ b∈ch,(b∈X.ex\/X.s₀.heap.objs.size<=b)/\b≠X.env.locals/\(∀ x c,X.env.cells.lookup x=some c->c≠b)/\∀ p∈X.pn++pins,p.1≠b):
  Inv X pins σ H' { s with heap:=h',gens:=g',drawn:=d',toks:=t' }:=by
 obtain ⟨m,⟨o,es,ep,ho,r⟩,_⟩:=id I.loc;obtain ⟨sl,hL⟩:=u.any ho I.free fun z=>(hch _ z).2.1 rfl;exact I.step (ch:=ch) hch (fun b o hL hb hc e n=>u.keep b o e n (fun z=>(bc.mp (I.stkSub b z)).elim hL hb) hc) (fun b o _ _ hc e n=>u.any e n hc) (fun b o hc e n=>u.free b o e n hc) (fun b o hc e=>u.there b o e hc) u.tups u.frzs u.tbls (fun m' hm=>by
  obtain ⟨o',es',ep',ho',r'⟩:=hm;rw [ho] at ho'; cases ho';exact ⟨_,es',ep',hL,r'⟩) hok hg
theorem Inv.turned {t':Nat} {it:Addr} (I:Inv X pins σ H s) (k:∀ b o,b≠it->s.heap.get? b=some o->h'.get? b=some o) (hn:H it=none) (hL:it≠X.env.locals)
  (h1:it∈X.ex\/X.s₀.heap.objs.size<=it) (h2:∀ x c,X.env.cells.lookup x=some c->c≠it) (h3:∀ p∈X.pn++pins,p.1≠it):Inv X pins σ H { s with heap:=h',toks:=t' }:=by
 have nit:∀ b u,H b=some u->b≠it:=fun b u e z=>by rw [z,hn] at e; cases e
 refine I.step (g':=s.gens) (d':=s.drawn) (ch:=[it]) (fun b hb=>?_) (fun b o _ _ hc e _=>k b o (fun z=>hc (by simp [z])) e) (fun b o _ _ hc e _=>⟨o.slots,k b o (fun z=>hc (by simp [z])) e⟩) (fun _ _ _ _ n=>n)
  (fun b o hc e=>⟨o,k b o (fun z=>hc (by simp [z])) e⟩) (fun _ _ e=>e) (fun _ _ _ e=>e) (fun b ps e=>⟨#[],by rw [e]; simp⟩) (fun m hm=>?_) (fun b u e=>?_) I.bare
 ·have e:b=it:=by simpa using hb
  subst e;exact ⟨h1,hL,h2,h3⟩
 ·obtain ⟨o,es,ep,ho,r⟩:=hm;exact ⟨o,es,ep,k _ o (i8 hL) ho,r⟩
 ·refine (I.hok b u e).stay (fun c v hc q=>k c v ?_ q) (fun _ q=>q) fun _ _ q=>q;rcases hc with z | z
  ·rw [z]; exact nit b u e
  ·exact nit c _ z
theorem Inv.tok (I:Inv X pins σ H s) (t:Nat):Inv X pins σ H { s with toks:=t }:=I.un (h':=s.heap) (t':=t) Un.refl I.hok
theorem Inv.kept {t':Nat} (I:Inv X pins σ H s) (k:∀ b u,s.heap.get? b=some u->h'.get? b=some u):Inv X pins σ H { s with heap:=h',toks:=t' }:=I.un (Un.kept k) (I.hok.kept k)
theorem Inv.laid {a:Addr} {o:HO} {t':Nat} (I:Inv X pins σ H s) (k:∀ b u,s.heap.get? b=some u->h'.get? b=some u) (hp:s.heap.objs.size<=a) (new:cO X.prog X.w (upd H a o) h' a o):
  Inv X pins σ (upd H a o) { s with heap:=h',toks:=t' }:=I.un (Un.laid k hp (I.hok.fresh hp)) (I.hok.laid k hp new)
theorem Inv.write {x e:Addr} {o:HO} {t':Nat} (I:Inv X pins σ H s) (mu:Mut (H x)) (he:e=x\/H e=some (.own x)) (k:∀ b u,b≠e->s.heap.get? b=some u->h'.get? b=some u) (heo:∃ u,h'.get? e=some u)
  (new:cO X.prog X.w (upd H x o) h' x o):Inv X pins σ (upd H x o) { s with heap:=h',toks:=t' }:=I.un (Un.write mu he k heo) (I.hok.write mu he k heo new)
theorem Inv.pins_of {pins':List (Addr×Obj)} (I:Inv X pins σ H s) (h:∀ p∈pins',s.heap.get? p.1=some p.2/\H p.1=none/\p.1≠X.env.locals/\p.1∉X.fs/\∀ v,p.2.data≠.cell v):Inv X pins' σ H s:=
 ⟨I.ok,I.os,I.bare,I.base,I.loc,I.cell,I.free,I.freeC,fun p hp=>(ba.mp hp).elim (fun z=>I.pin p (fc _ z)) (h p),I.hok,I.len⟩
theorem BH {N:List Str} (hN:N.Nodup) {i j:Nat} {x:Str} (a:N[i]?=some x) (b:N[j]?=some x):i=j:=by
 obtain ⟨h1,e1⟩:=ab.mp a;obtain ⟨h2,e2⟩:=ab.mp b;exact (List.getElem_inj hN).mp (e1.trans e2.symm)
theorem xT {M:Model} {A:Around} {E:Value->Shared->Prop} {i:Nat} {x:Str} {v:V} {u:Value} {Q:Unit->Shared->Prop} (I:Inv X pins σ H s) (hN:X.N.Nodup) (hi:X.N[i]?=some x) (hx:Loc X.env.scope x) (r:RelV v u)
  (h:∀ s',Inv X pins (σ.set i (some v)) H s'->(∃ a,gd a s.heap s'.heap/\(a=X.env.locals\/X.env.cells.lookup x=some a))->Q () s') (hf:X.fn x=true\/X.env.scope.names.lookup x=some .local:=by first | exact .inl rfl | exact .inr rfl | assumption):wpAny M A (storeName X.env x u) Q E s:=by
 obtain ⟨m,hn,hl⟩:=id I.loc;have hcls:(X.env.scope.kind == .class || (X.env.scope.kind == .module && X.env.locals != X.env.globals))=false:=by rw [I.ok.kind]; rfl
 have hiσ:i < σ.length:=by rw [I.len]; exact (ab.mp hi).1
 have cne:=I.cne;have tracked:∀ {a:Addr} {h':Heap},(∃ o,s.heap.get? a=some o/\H a=none)->gd a s.heap h'->HOk X.prog X.w H h':=fun {a h'} ha hs b ob e=>by
  obtain ⟨_,_,hfree⟩:=ha;refine (I.hok b ob e).stay (fun c w' hc q=>(hs.2 c ?_).trans q) (fun _ q=>q) fun _ _ q=>q;rintro rfl;rcases hc with rfl | hc
  ·rw [hfree] at e; cases e
  ·rw [hfree] at hc; cases hc
 rcases hx with hk | hk
 ·refine wpAny_storeName_local hk hn (fun h' hn' hs=>?_) hcls;obtain ⟨oL,_,_,hoL,_⟩:=id hn;refine h _ ⟨I.ok,I.os,I.bare,⟨fun b o e n hb hx=>?_,fun b o e n hb hx=>?_,I.base.free,fun b o e hx=>?_,I.base.tups,I.base.frzs,I.base.tbls⟩,⟨_,hn',fun j y v' e1 e2 e3=>?_⟩,fun y c e=>?_,I.free,I.freeC,fun p hp=>?_,tracked ⟨oL,hoL,I.free⟩ hs,by simpa using I.len⟩ ⟨_,hs,.inl rfl⟩
  ·exact (hs.2 b (a9 (bh (aw e) I.ok.above))).trans (I.base.keep b o e n hb hx)
  ·obtain ⟨sl,e1⟩:=I.base.slot b o e n hb hx;exact ⟨sl,(hs.2 b (a9 (bh (aw e) I.ok.above))).trans e1⟩
  ·obtain ⟨o',e1⟩:=I.base.there b o e hx;exact ⟨o',(hs.2 b (a9 (bh (aw e) I.ok.above))).trans e1⟩
  ·by_cases hj:j=i
   ·subst hj;rw [hi] at e1; cases e1;rw [fh hiσ] at e2;cases e2
    exact ⟨u,r,.inl ⟨hk,by simp⟩⟩
   ·rw [a8 (i8 hj)] at e2;obtain ⟨u',r',q⟩:=hl j y v' e1 e2 e3;refine ⟨u',r',?_⟩;rcases q with ⟨k,e⟩ | ⟨k,c,e,z⟩
    ·refine .inl ⟨k,?_⟩;have:y≠x:=fun e=>hj (BH hN e1 (e ▸ hi));simp [this,e]
    ·exact .inr ⟨k,c,e,z.sameBut hs (cne y c e)⟩
  ·obtain ⟨w',z⟩:=I.cell y c e;exact ⟨w',z.sameBut hs (cne y c e)⟩
  ·obtain ⟨e,n,ne,nf,d⟩:=I.pin p hp;exact ⟨(hs.2 p.1 ne).trans e,n,ne,nf,d⟩
 ·have hfn:X.fn x=true:=by
   rcases hf with z | z
   ·exact z
   ·rw [z] at hk; cases hk
  obtain ⟨c,hc⟩:=I.ok.has x (.inl hk);obtain ⟨w',z⟩:=I.cell x c hc;refine wpAny_storeName_cell I.ok.kind hk hc z (fun h' hc' hs=>?_);obtain ⟨oc,hoc,hocd⟩:=id z;refine h { s with heap:=h' } ⟨I.ok,I.os,I.bare,⟨fun b o e n hb hx=>?_,fun b o e n hb hx=>?_,I.base.free,fun b o e hx=>?_,I.base.tups,I.base.frzs,I.base.tbls⟩,⟨m,hn.sameBut hs (i8 (cne x c hc)),fun j y v' e1 e2 e3=>?_⟩,fun y c' e=>?_,I.free,I.freeC,fun p hp=>?_,tracked ⟨oc,hoc,I.freeC x c hc⟩ hs,by simpa using I.len⟩ ⟨c,hs,.inr hc⟩
  ·exact (hs.2 b (a9 (bh (aw e) (I.ok.cab x c hfn hc)))).trans (I.base.keep b o e n hb hx)
  ·obtain ⟨sl,e1⟩:=I.base.slot b o e n hb hx;exact ⟨sl,(hs.2 b (a9 (bh (aw e) (I.ok.cab x c hfn hc)))).trans e1⟩
  ·obtain ⟨o',e1⟩:=I.base.there b o e hx;exact ⟨o',(hs.2 b (a9 (bh (aw e) (I.ok.cab x c hfn hc)))).trans e1⟩
  ·by_cases hj:j=i
   ·subst hj;rw [hi] at e1; cases e1;rw [fh hiσ] at e2;cases e2
    exact ⟨u,r,.inr ⟨.inl hk,c,hc,hc'⟩⟩
   ·rw [a8 (i8 hj)] at e2;obtain ⟨u',r',q⟩:=hl j y v' e1 e2 e3;refine ⟨u',r',?_⟩;rcases q with q | ⟨k,c',e,z'⟩
    ·exact .inl q
    ·refine .inr ⟨k,c',e,z'.sameBut hs ?_⟩;rintro rfl;exact hj (BH hN e1 (I.ok.inj _ _ _ e hc ▸ hi))
  ·by_cases hcc:c'=c
   ·subst hcc; exact ⟨_,hc'⟩
   ·obtain ⟨w2,z2⟩:=I.cell y c' e;exact ⟨w2,z2.sameBut hs hcc⟩
  ·obtain ⟨e,n,ne,nf,d⟩:=I.pin p hp;refine ⟨(hs.2 p.1 ?_).trans e,n,ne,nf,d⟩;intro q;rw [q,hoc] at e;have q':oc=p.2:=bg e;exact d w' (by rw [<- q']; exact hocd)
theorem BI {M:Model} {A:Around} {E:Value->Shared->Prop} {i:Nat} {x:Str} {v:V} {u:Value} {Q:Unit->Shared->Prop} (I:Inv X pins σ H s) (hN:X.N.Nodup) (hi:X.N[i]?=some x) (hx:Loc X.env.scope x) (r:RelV v u)
  (h:∀ s',Inv X pins (σ.set i (some v)) H s'->Q () s') (hf:X.fn x=true\/X.env.scope.names.lookup x=some .local:=by first | exact .inl rfl | exact .inr rfl | assumption):wpAny M A (storeName X.env x u) Q E s:=
 xT I hN hi hx r (fun s' I' _=>h s' I') hf
theorem Inv.call' {s':Shared} {ch:List Addr} (I:Inv X pins σ H s) (ho:s'.os=s.os) (u:Un (frs X.stack) ch H H' s.heap s'.heap) (hok:HOk X.prog X.w H' s'.heap) (hg:AllBare s'.gens)
  (hch:∀ b∈ch,(b∈X.ex\/X.s₀.heap.objs.size<=b)/\b≠X.env.locals/\(∀ x c,X.env.cells.lookup x=some c->c≠b)/\∀ p∈X.pn++pins,p.1≠b):Inv X pins σ H' s':=by
 obtain ⟨h',g',d',t',o'⟩:=s';have e:o'=s.os:=ho;subst e;exact I.call (g':=g') (t':=t') (d':=d') u hok hg hch
end
noncomputable abbrev XK:=Value->Option Addr->Hp->Prop
noncomputable abbrev St:=List (Option V)
noncomputable abbrev VK:=V->Hp->Prop
noncomputable abbrev TE:=St->Hp->VK->Prop
noncomputable abbrev TT:=St->Hp->(Bool->Hp->Prop)->Prop
noncomputable abbrev TA:=St->Hp->(List V->Hp->Prop)->Prop
structure Ends where
 nx:St->Hp->Prop
 rt:VK
 bk:St->Hp->Prop:=fun _ _=>False
 ct:St->Hp->Prop:=fun _ _=>False
noncomputable abbrev TS:=Ends->St->Hp->Prop
noncomputable def EP (X:Cx) (pins:List (Addr×Obj)) (σ:St) (Q:VK) (u:Value) (s':Shared):Prop:=∃ v H',Inv X pins σ H' s'/\RelV v u/\Q v H'
noncomputable def TP (X:Cx) (pins:List (Addr×Obj)) (σ:St) (Q:Bool->Hp->Prop) (b:Bool) (s':Shared):Prop:=∃ H',Inv X pins σ H' s'/\Q b H'
noncomputable def AP (X:Cx) (pins:List (Addr×Obj)) (σ:St) (Q:List V->Hp->Prop) (us:List Value) (s':Shared):Prop:=∃ vs H',Inv X pins σ H' s'/\aN vs us/\Q vs H'
noncomputable def SP (X:Cx) (pins:List (Addr×Obj)) (D:Ends) (f:Flow) (s':Shared):Prop:=
 match f with
 | .next=>∃ σ' H',Inv X pins σ' H' s'/\D.nx σ' H'
 | .brk=>∃ σ' H',Inv X pins σ' H' s'/\D.bk σ' H'
 | .cont=>∃ σ' H',Inv X pins σ' H' s'/\D.ct σ' H'
 | .ret u=>∃ v σ' H',Inv X pins σ' H' s'/\RelV v u/\D.rt v H'
noncomputable def PE (X:Cx) (e:Expr) (t:TE):Prop:=
 ∀ (pins:List (Addr×Obj)) (s:Shared) (σ:St) (H:Hp) (Q:VK),Inv X pins σ H s->t σ H Q->wpAny (model X.prog X.w) X.A (eval e X.env) (EP X pins σ Q) X.xe s
noncomputable def PT (X:Cx) (e:Expr) (t:TT):Prop:=
 ∀ (pins:List (Addr×Obj)) (s:Shared) (σ:St) (H:Hp) (Q:Bool->Hp->Prop),Inv X pins σ H s->t σ H Q->wpAny (model X.prog X.w) X.A (isTrue e X.env (eval e X.env)) (TP X pins σ Q) X.xe s
noncomputable def PW (X:Cx) (e:Expr) (t:TT):Prop:=
 ∀ (whole:Sem Value) (pins:List (Addr×Obj)) (s:Shared) (σ:St) (H:Hp) (Q:Bool->Hp->Prop),Inv X pins σ H s->t σ H Q->wpAny (model X.prog X.w) X.A (isTrue e X.env whole) (TP X pins σ Q) X.xe s
theorem PW.pt {X:Cx} {e:Expr} {t:TT} (h:PW X e t):PT X e t:=h _
noncomputable def PA (X:Cx) (es:List Expr) (t:TA):Prop:=
 ∀ (pos:Pos) (pins:List (Addr×Obj)) (s:Shared) (σ:St) (H:Hp) (Q:List V->Hp->Prop),Inv X pins σ H s->t σ H Q->wpAny (model X.prog X.w) X.A (spliced (backTo pos (bz es X.env))) (AP X pins σ Q) X.xe s
noncomputable def PS (X:Cx) (st:Stmt) (t:TS):Prop:=
 ∀ (pins:List (Addr×Obj)) (s:Shared) (σ:St) (H:Hp) (D:Ends),Inv X pins σ H s->t D σ H->wpAny (model X.prog X.w) X.A (exec st X.env) (SP X pins D) X.xe s
noncomputable def PSs (X:Cx) (st:List Stmt) (t:TS):Prop:=
 ∀ (pins:List (Addr×Obj)) (s:Shared) (σ:St) (H:Hp) (D:Ends),Inv X pins σ H s->t D σ H->wpAny (model X.prog X.w) X.A (execs st X.env) (SP X pins D) X.xe s
theorem thn {α:Type} {t:Sem α} {Q Q':α->Shared->Prop} {M:Model} {A:Around} {E:Value->Shared->Prop} {s:Shared} (h:wpAny M A t Q E s) (hQ:∀ a s,Q a s->Q' a s):wpAny M A t Q' E s:=f7 h hQ fun _ _ x=>x
section
variable {X:Cx}
noncomputable def RU (i:Nat):TE:=fun σ H Q=>∃ v,σ[i]?=some (some v)/\Q v H
noncomputable def tC (v:V):TE:=fun _ H Q=>Q v H
theorem DM {i:Nat} {x:Str} {pos:Pos} (hN:X.N[i]?=some x) (hv:Vis X.env.scope x) (hd:(x == ("__debug__" : Str))=false:=by decide) (hcd:(x == ("__classdict__" : Str))=false:=by decide):PE X (.Name x pos) (RU i):=by
 intro pins s σ H Q I h;obtain ⟨v,e,h⟩:=h;obtain ⟨m,hn,hl⟩:=I.loc;obtain ⟨u,r,l⟩:=hl i x v hN e hv;have fin:EP X pins σ Q u s:=⟨v,H,I,r,h⟩;rcases l with ⟨hk,hm⟩ | ⟨hk,c,hc,hcell⟩
 ·exact wpAny_Name (wpAny_loadName_local I.ok.kind hk hn hm fin) hd
 ·rcases hk with hk | hk
  ·exact wpAny_Name (wpAny_loadName_cell I.ok.kind hk hc hcell fin) hd
  ·exact wpAny_Name (wpAny_loadName_free I.ok.kind hk hc hcell fin hcd) hd
theorem Pz {i j pos}:PE X (.Constant (.int i) j pos) (tC (.int i)):=fun _ _ _ H _ I h=>wpAny_Constant_int ⟨.int i,H,I.tok _,⟨_,rfl⟩,h⟩
theorem RW {b j pos}:PE X (.Constant (.bool b) j pos) (tC (.bl b)):=fun _ _ _ H _ I h=>Constant_bool ⟨.bl b,H,I,rfl,h⟩
theorem PB {j pos}:PE X (.Constant .none j pos) (tC .non):=fun _ _ _ H _ I h=>Constant_none ⟨.non,H,I,rfl,h⟩
theorem PC {x j pos}:PE X (.Constant (.str x) j pos) (tC (.str x)):=fun _ _ _ H _ I h=>Calls.Constant_str ⟨.str x,H,I.tok _,⟨_,rfl⟩,h⟩
noncomputable def Gl (X:Cx) (x:Str):Prop:=X.env.kindOf x=some .globalImplicit
theorem sR {E:Value->Shared->Prop} {pins:List (Addr×Obj)} {s:Shared} {σ:St} {H:Hp} {x:Str} {u:Value} {pos:Pos} {Q:Value->Shared->Prop} (I:Inv X pins σ H s) (hg:Gl X x) (hm:X.mg x=some u) (h:Q u s)
  (hd:(x == ("__debug__" : Str))=false:=by decide):wpAny (model X.prog X.w) X.A (eval (.Name x pos) X.env) Q E s:=
 Calls.Name_function_global I.ok.kind hg (Calls.loadGlobal_global (by rw [I.ok.glob]; exact I.mod.glob.keeps I.bk) hm h) hd
theorem pL {E:Value->Shared->Prop} {pins:List (Addr×Obj)} {s:Shared} {σ:St} {H:Hp} {x:Str} {u:Value} {pos:Pos} {Q:Value->Shared->Prop} (I:Inv X pins σ H s) (hg:Gl X x) (hm:X.mg x=none) (hv:k9 x=some u) (h:Q u s)
  (hn:x≠"__name__" := by decide) (hd:(x == ("__debug__" : Str))=false:=by decide):wpAny (model X.prog X.w) X.A (eval (.Name x pos) X.env) Q E s:=by
 obtain ⟨mb,h1,h2⟩:=I.mod.blt;exact Calls.Name_function_global I.ok.kind hg (Calls.loadGlobal_builtin (by rw [I.ok.glob]; exact I.mod.glob.keeps I.bk) hm (by rw [I.ok.blt]; exact h1.keeps I.bk) ((h2 x hn).trans hv) h) hd
variable {a b:Expr} {ta tb:TE} {pos:Pos}
variable {tA tB':TT} {rest:List Expr}
noncomputable def Uy (t u:TT):TT:=fun σ H Q=>t σ H fun c H1=>if c=true then u σ H1 Q else Q false H1
noncomputable def tOr (t u:TT):TT:=fun σ H Q=>t σ H fun c H1=>if c=true then Q true H1 else u σ H1 Q
theorem MS (ha:PT X a tA):PW X (.BoolOp .And [a] pos) tA:=by
 intro wh pins s σ H Q I h;refine isTrue_and (thn (ha pins s σ H Q I h) fun c s1 e=>?_);cases c with
 | true=>exact isTrue_and_nil e
 | false=>exact e
theorem PD (ha:PT X a tA):PW X (.BoolOp .Or [a] pos) tA:=by
 intro wh pins s σ H Q I h;refine isTrue_or (thn (ha pins s σ H Q I h) fun c s1 e=>?_);cases c with
 | false=>exact isTrue_or_nil e
 | true=>exact e
theorem PF (ha:PT X a tA) (hb:PW X (.BoolOp .And (b :: rest) pos) tB'):PW X (.BoolOp .And (a :: b :: rest) pos) (Uy tA tB'):=by
 intro wh pins s σ H Q I h;refine isTrue_and (thn (ha pins s σ H _ I h) fun c s1 ⟨H1,I1,q1⟩=>?_);cases c with
 | true=>exact hb wh pins s1 σ H1 Q I1 q1
 | false=>exact ⟨H1,I1,q1⟩
theorem RX (ha:PT X a tA) (hb:PW X (.BoolOp .Or (b :: rest) pos) tB'):PW X (.BoolOp .Or (a :: b :: rest) pos) (tOr tA tB'):=by
 intro wh pins s σ H Q I h;refine isTrue_or (thn (ha pins s σ H _ I h) fun c s1 ⟨H1,I1,q1⟩=>?_);cases c with
 | true=>exact ⟨H1,I1,q1⟩
 | false=>exact hb wh pins s1 σ H1 Q I1 q1
noncomputable def tIf (t:TT) (ta tb:TE):TE:=fun σ H Q=>t σ H fun c H1=>if c=true then ta σ H1 Q else tb σ H1 Q
theorem Jj {c:Expr} (hc:PT X c tA) (ha:PE X a ta) (hb:PE X b tb):PE X (.IfExp c a b pos) (tIf tA ta tb):=by
 intro pins s σ H Q I h;refine wpAny_IfExp (thn (hc pins s σ H _ I h) fun d s1 ⟨H1,I1,q1⟩=>?_);cases d with
 | true=>exact ha pins s1 σ H1 Q I1 q1
 | false=>exact hb pins s1 σ H1 Q I1 q1
end
noncomputable def SqL (K:af) (H:Hp) (a:Addr) (xs:List V):Prop:=
 Rd H a (.lst xs)\/
  ∃ (o:Obj) (its:Array Value) (n:Nat),K.lookup a=some o/\o.cls=.type "list" /\ o.dict=none/\o.data=.seq its n/\its.size<=au/\aN xs its.toList
noncomputable def SqT (K:af) (H:Hp) (a:Addr) (xs:List V):Prop:=
 Rd H a (.tup xs)\/
  ∃ (o:Obj) (its:Array Value) (n:Nat),K.lookup a=some o/\o.cls=.type "tuple" /\ o.data=.seq its n/\its.size<=au/\aN xs its.toList/\o.dict=none
noncomputable def Uz:Value->Option V
 | .none=>some .non
 | .bool b=>some (.bl b)
 | .int i _=>some (.int i)
 | .str x _=>some (.str x)
 | .bytes b _=>some (.byt b)
 | .float b _=>some (.flt b)
 | .ref a=>some (.ref a)
 | .type n=>some (.ty n)
 | _=>none
theorem RelV.abs {x:V} {u:Value} (r:RelV x u):Uz u=some x:=by
 cases x with
 | non=>cases r; rfl
 | bl _=>cases r; rfl
 | int _=>obtain ⟨t,rfl⟩:=r; rfl
 | str _=>obtain ⟨t,rfl⟩:=r; rfl
 | byt _=>obtain ⟨t,rfl⟩:=r; rfl
 | flt _=>obtain ⟨t,rfl⟩:=r; rfl
 | ref _=>cases r; rfl
 | ty _=>cases r; rfl
theorem RelV.inj {x y:V} {u:Value} (r:RelV x u) (q:RelV y u):x=y:=bg (r.abs.symm.trans q.abs)
theorem aN.inj:∀ {xs ys:List V} {us:List Value},aN xs us->aN ys us->xs=ys
 | _,_,_,.nil,.nil=>rfl
 | _,_,_,.cons r t,.cons r' t'=>by rw [r.inj r',aN.inj t t']
section
variable {X:Cx} {pins:List (Addr×Obj)} {σ:St} {H:Hp} {s:Shared} {a:Addr} {xs ys:List V}
theorem SqL.of {K:af} (h:H a=some (.lst xs)):SqL K H a xs:=.inl (.inl h)
theorem SqT.of {K:af} (h:H a=some (.tup xs)):SqT K H a xs:=.inl (.inl h)
theorem Inv.list (I:Inv X pins σ H s) (h:SqL X.K H a xs):∃ its:List Value,aN xs its/\PlainL s.heap a its.toArray/\xs.length<=au:=by
 rcases h with h | ⟨o,its,n,hk,hc,hd,hs,hz,r⟩
 ·obtain ⟨z,its,n,r,e⟩:=h.ok I.hok;exact ⟨its,r,⟨_,n,e,rfl,rfl,rfl⟩,z⟩
 ·refine ⟨its.toList,r,⟨o,n,I.kIn a o hk,hc,hd,by simpa using hs⟩,?_⟩
  have e:=r.length;simp only [dt] at e;omega
theorem Inv.tuple (I:Inv X pins σ H s) (h:SqT X.K H a xs):∃ its:List Value,aN xs its/\IsTup s.heap a its.toArray/\xs.length<=au:=by
 rcases h with h | ⟨o,its,n,hk,hc,hs,hz,r,_⟩
 ·obtain ⟨z,its,r,p⟩:=h.ok I.hok;exact ⟨its,r,p.is,z⟩
 ·refine ⟨its.toList,r,⟨o,I.kIn a o hk,hc,n,by simpa using hs⟩,?_⟩
  have e:=r.length;simp only [dt] at e;omega
theorem Inv.list_inj (I:Inv X pins σ H s) (h:SqL X.K H a xs) (h':SqL X.K H a ys):xs=ys:=by
 obtain ⟨its,r,⟨o,n,e,_,_,d⟩,_⟩:=I.list h;obtain ⟨its',r',⟨o',n',e',_,_,d'⟩,_⟩:=I.list h';rw [e] at e'; cases e';rw [d] at d';injection d' with d1 _;have:its=its':=by simpa using congrArg Array.toList d1
 subst this;exact r.inj r'
theorem Inv.tuple_inj (I:Inv X pins σ H s) (h:SqT X.K H a xs) (h':SqT X.K H a ys):xs=ys:=by
 obtain ⟨its,r,⟨o,e,_,n,d⟩,_⟩:=I.tuple h;obtain ⟨its',r',⟨o',e',_,n',d'⟩,_⟩:=I.tuple h';rw [e] at e'; cases e';rw [d] at d';injection d' with d1 _;have:its=its':=by simpa using congrArg Array.toList d1
 subst this;exact r.inj r'
end
noncomputable abbrev Cx.wish (X:Cx) (E:Value->Shared->Prop):Cx:={ X with xe:=E }
noncomputable abbrev Cx.nox (X:Cx):Cx:=X.wish fun _ _=>False
theorem Cx.Ok.wish {X:Cx} (ok:X.Ok) (E:Value->Shared->Prop):(X.wish E).Ok:=
 ⟨ok.mod,ok.kind,ok.glob,ok.blt,ok.above,ok.inj,ok.has,ok.cab,ok.hd,ok.frames,ok.stk,ok.exf,ok.bs,ok.bsz,ok.noex,ok.exfs,ok.funs,ok.frf⟩
theorem Cx.Ok.unwish {X:Cx} {E:Value->Shared->Prop} (ok:(X.wish E).Ok):X.Ok:=
 ⟨ok.mod,ok.kind,ok.glob,ok.blt,ok.above,ok.inj,ok.has,ok.cab,ok.hd,ok.frames,ok.stk,ok.exf,ok.bs,ok.bsz,ok.noex,ok.exfs,ok.funs,ok.frf⟩
section
variable {X:Cx} {pins:List (Addr×Obj)} {σ:St} {H:Hp} {s:Shared} {E:Value->Shared->Prop}
theorem Inv.wish (I:Inv X pins σ H s) (E:Value->Shared->Prop):Inv (X.wish E) pins σ H s:=⟨I.ok.wish E,I.os,I.bare,I.base,I.loc,I.cell,I.free,I.freeC,I.pin,I.hok,I.len⟩
theorem Inv.unwish (I:Inv (X.wish E) pins σ H s):Inv X pins σ H s:=⟨I.ok.unwish,I.os,I.bare,I.base,I.loc,I.cell,I.free,I.freeC,I.pin,I.hok,I.len⟩
theorem SP.unwish {D:Ends} {f:Flow} {s':Shared} (h:SP (X.wish E) pins D f s'):SP X pins D f s':=by
 cases f with
 | next=>obtain ⟨σ',H',I,q⟩:=h; exact ⟨σ',H',I.unwish,q⟩
 | brk=>obtain ⟨σ',H',I,q⟩:=h; exact ⟨σ',H',I.unwish,q⟩
 | cont=>obtain ⟨σ',H',I,q⟩:=h; exact ⟨σ',H',I.unwish,q⟩
 | ret u=>obtain ⟨v,σ',H',I,r,q⟩:=h; exact ⟨v,σ',H',I.unwish,r,q⟩
theorem PSs.nox {st:List Stmt} {t:TS} (h:PSs X.nox st t):PSs X st t:=fun pins s σ H D I hw=>
 f7 (h pins s σ H D (I.wish _) hw) (fun _ _ q=>q.unwish) fun _ _ z=>f9 z
end
section
variable {X:Cx} {st:Stmt} {rest:List Stmt} {t u:TS} {e:Expr} {te:TE} {pos:Pos}
noncomputable def RY:TS:=fun D σ H=>D.nx σ H
noncomputable def UA (t u:TS):TS:=fun D σ H=>t { D with nx:=u D } σ H
theorem MT:PSs X [] RY:=fun _ _ σ H _ I h=>wpAny_execs_nil ⟨σ,H,I,h⟩
theorem Jk (h1:PS X st t) (h2:PSs X rest u):PSs X (st :: rest) (UA t u):=by
 intro pins s σ H D I h;refine wpAny_execs_cons (thn (h1 pins s σ H { D with nx:=u D } I h) fun f s1 q=>?_);cases f with
 | next=>
  obtain ⟨σ',H',I',q⟩:=q;exact h2 pins s1 σ' H' D I' q
 | ret v=>exact q
 | brk=>exact q
 | cont=>exact q
theorem MU (h1:PS X st t):PSs X [st] t:=by
 intro pins s σ H D I h;refine wpAny_execs_cons (thn (h1 pins s σ H D I h) fun f s1 q=>?_);cases f with
 | next=>exact wpAny_execs_nil q
 | ret v=>exact q
 | brk=>exact q
 | cont=>exact q
noncomputable def RZ:TS:=fun D σ H=>D.ct σ H
theorem BJ:PS X (.Continue pos) RZ:=fun _ _ σ H _ I h=>wpAny_Continue ⟨σ,H,I,h⟩
theorem Inv.quiet {pins:List (Addr×Obj)} {σ:St} {H:Hp} {s:Shared} (I:Inv X pins σ H s):interactive X.env=false:=by simp [interactive,I.ok.kind]
noncomputable def S0 (te:TE):TS:=fun D σ H=>te σ H fun _ H1=>D.nx σ H1
theorem MV (he:PE X e te) (hs:swapsWith e none pos.line X.env=pure false:=by rfl):PS X (.Expr e pos) (S0 te):=by
 intro pins s σ H D I h;exact wpAny_Expr_any (thn (he pins s σ H _ I h) fun v s1 ⟨x,H1,I1,r1,q1⟩=>⟨σ,H1,I1,q1⟩) I.quiet hs
noncomputable def UB (te:TE):TS:=fun D σ H=>te σ H D.rt
theorem PJ (he:PE X e te):PS X (.Return (some e) pos) (UB te):=by
 intro pins s σ H D I h;exact wpAny_Return_some (thn (he pins s σ H _ I h) fun v s1 ⟨x,H1,I1,r1,q1⟩=>⟨x,σ,H1,I1,r1,q1⟩)
noncomputable def UC (c:TT) (t u:TS):TS:=fun D σ H=>c σ H fun b H1=>if b=true then t D σ H1 else u D σ H1
theorem S3 {c:Expr} {a b:List Stmt} {tc:TT} (hc:PT X c tc) (ha:PSs X a t) (hb:PSs X b u):PS X (.If c a b pos) (UC tc t u):=by
 intro pins s σ H D I h;refine wpAny_If (thn (hc pins s σ H _ I h) fun d s1 ⟨H1,I1,q1⟩=>?_);cases d with
 | true=>exact ha pins s1 σ H1 D I1 q1
 | false=>exact hb pins s1 σ H1 D I1 q1
end
noncomputable abbrev TG:=V->St->Hp->(St->Hp->Prop)->Prop
noncomputable abbrev TGs:=List V->St->Hp->(St->Hp->Prop)->Prop
noncomputable def PG (X:Cx) (target:Expr) (t:TG):Prop:=
 ∀ (pins:List (Addr×Obj)) (s:Shared) (σ:St) (H:Hp) (v:V) (u:Value) (Q:St->Hp->Prop),Inv X pins σ H s->RelV v u->t v σ H Q->
  wpAny (model X.prog X.w) X.A (assign target X.env u) (fun _ s'=>∃ σ' H',Inv X pins σ' H' s'/\Q σ' H') X.xe s
noncomputable def PGs (X:Cx) (ts:List Expr) (t:TGs):Prop:=
 ∀ (pins:List (Addr×Obj)) (s:Shared) (σ:St) (H:Hp) (vs:List V) (us:List Value) (Q:St->Hp->Prop),Inv X pins σ H s->aN vs us->t vs σ H Q->
  wpAny (model X.prog X.w) X.A (assignInOrder ((iq ts X.env).map (·.2)) us) (fun _ s'=>∃ σ' H',Inv X pins σ' H' s'/\Q σ' H') X.xe s
noncomputable abbrev UD:=V->V->V->Hp->(Hp->Prop)->Prop
noncomputable def UE (X:Cx) (t:UD):Prop:=
 ∀ (pins:List (Addr×Obj)) (s:Shared) (σ:St) (H:Hp) (o i v:V) (ov iv u:Value) (Q:Hp->Prop),Inv X pins σ H s->RelV o ov->RelV i iv->RelV v u->t o i v H Q->
  wpAny (model X.prog X.w) X.A (setItem ov iv u) (fun _ s'=>∃ H',Inv X pins σ H' s'/\Q H') X.xe s
section
variable {X:Cx} {pos:Pos}
noncomputable def Jl (i:Nat):TG:=fun v σ H Q=>Q (σ.set i (some v)) H
theorem MW {i:Nat} {x:Str} (hN:X.N.Nodup) (hi:X.N[i]?=some x) (hx:Loc X.env.scope x) (hf:X.fn x=true\/X.env.scope.names.lookup x=some .local:=by first | exact .inl rfl | exact .inr rfl | assumption):PG X (.Name x pos) (Jl i):=by
 intro pins s σ H v u Q I r h;exact wpAny_assign_Name (BI I hN hi hx r (fun s' I'=>⟨_,H,I',h⟩) hf)
noncomputable def UF:TGs:=fun vs σ H Q=>vs=[]/\Q σ H
noncomputable def S4 (t:TG) (u:TGs):TGs:=fun vs σ H Q=>∃ v r,vs=v :: r/\t v σ H fun σ' H'=>u r σ' H' Q
theorem MX:PGs X [] UF:=by
 intro pins s σ H vs us Q I r h;obtain ⟨e,h⟩:=h;subst e;cases r
 exact assignInOrder_nil ⟨σ,H,I,h⟩
theorem Jm {e:Expr} {es:List Expr} {t:TG} {u:TGs} (h1:PG X e t) (h2:PGs X es u)
  (hs:(iq (e :: es) X.env).map (·.2)=assign e X.env :: (iq es X.env).map (·.2):=by rfl):PGs X (e :: es) (S4 t u):=by
 intro pins s σ H vs us Q I r h;obtain ⟨v,vr,e1,h⟩:=h;subst e1;cases r with
 | cons r rr=>
  rw [hs];refine assignInOrder_cons (thn (h1 pins s σ H _ _ _ I r h) fun _ s1 ⟨σ1,H1,I1,q1⟩=>?_);exact h2 pins s1 σ1 H1 _ _ Q I1 rr q1
noncomputable def S5 (K:af) (n:Nat) (t:TGs):TG:=fun v σ H Q=>∃ a xs,v=.ref a/\SqT K H a xs/\xs.length=n/\t xs σ H Q
theorem PK {es:List Expr} {k:Nat} {t:TGs} {n:Nat} (hc:X.calm=true) (h:PGs X es t)
  (hn:(iq es X.env).length=n:=by rfl) (hst:(iq es X.env).findIdx? (·.1)=none:=by rfl):PG X (.Tuple es k pos) (S5 X.K n t):=by
 intro pins s σ H v u Q I r hw;obtain ⟨a,xs,e1,hq,hl,hw⟩:=hw;subst e1;cases r
 obtain ⟨its,rv,ht,hz⟩:=I.tuple hq;refine assign_Tuple_tuple (I.ok.hd hc) ht (by simp [hn,<- hl,rv.length]) hst fun h' hx=>?_;have I1:Inv X pins σ H { s with heap:=h' }:=I.kept (t':=s.toks) fun b o e=>hx b o (a9 (aw e)) e;exact h pins _ σ H xs _ Q I1 (by simpa using rv) hw
noncomputable def PL (te:TE) (g:TG):TS:=fun D σ H=>te σ H fun x H1=>g x σ H1 D.nx
theorem PM {tg e:Expr} {te:TE} {g:TG} (he:PE X e te) (hg:PG X tg g) (hs:swapsWithSole [tg] e pos.line X.env=pure false:=by rfl) (hw:swappedStores [tg] e X.env=pure none:=by rfl)
  (h1:(iq [tg] X.env).map (·.2)=[assign tg X.env]:=by rfl):PS X (.Assign [tg] e pos) (PL te g):=by
 intro pins s σ H D I h;refine wpAny_Assign_stores (thn (he pins s σ H _ I h) fun v s1 hz=>?_) hs hw;obtain ⟨x,H1,I1,r1,q1⟩:=hz;rw [h1];exact thn (hg pins s1 σ H1 x v _ I1 r1 q1) fun _ s2 q=>q
theorem PN {i:Nat} {x:Str} {e:Expr} {te:TE} {pos':Pos} (hN:X.N.Nodup) (hi:X.N[i]?=some x) (hx:Loc X.env.scope x) (he:PE X e te) (hs:swapsWith e (some (.Name x pos')) pos.line X.env=pure false:=by rfl) (hf:X.fn x=true\/X.env.scope.names.lookup x=some .local:=by first | exact .inl rfl | exact .inr rfl | assumption):
  PS X (.Assign [.Name x pos'] e pos) (PL te (Jl i)):=by
 intro pins s σ H D I h;refine wpAny_Assign_Name (thn (he pins s σ H _ I h) fun v s1 hz=>?_) hs;obtain ⟨y,H1,I1,r1,q1⟩:=hz;exact BI I1 hN hi hx r1 (fun s2 I2=>⟨_,H1,I2,q1⟩) hf
end
structure It where
 go:Nat->Hp->Prop
 yld:Nat->Hp->V->Hp->Prop
 stop:Nat->Hp->Prop
noncomputable def BK (X:Cx) (pins:List (Addr×Obj)) (H:Hp) (b:Addr):Prop:=
 H b=none/\b≠X.env.locals/\b∉X.fs/\(b∈X.ex\/X.s₀.heap.objs.size<=b)/\(∀ x c,X.env.cells.lookup x=some c->c≠b)/\∀ p∈X.pn++pins,p.1≠b
theorem Inv.fpOk {X:Cx} {pins:List (Addr×Obj)} {σ:St} {H H':Hp} {s:Shared} {b:Addr} (I:Inv X pins σ H s) (hb:s.heap.objs.size<=b) (hn:H' b=none):BK X pins H' b:=by
 refine ⟨hn,Nat.ne_of_gt (bh I.lt hb),I.nofs hb,.inr (c9 I.sz hb),fun x c e z=>?_,fun p hp z=>?_⟩
 ·obtain ⟨v,q⟩:=I.cell x c e;exact absurd (bh q.lt (by rw [z]; exact hb)) (fj _)
 ·exact absurd (bh (aw (I.pin p hp).1) (by rw [z]; exact hb)) (fj _)
structure Turn (P:Program) (w:World) (K:af) (tg:Expr) (J:It) (fp:List Addr) (it:Addr) (tn:Nat->Heap->Prop):Prop where
 mem:it∈fp
 obj:∀ i h,tn i h->∀ b∈fp,∃ o,h.get? b=some o/\∀ v,o.data≠.cell v
 keep:∀ i h h',tn i h->(∀ b∈fp,∀ o,h.get? b=some o->h'.get? b=some o)->tn i h'
 item:∀ (X:Cx),X.prog=P->X.w=w->X.K=K->X.calm=true->∀ (i:Nat) (pins:List (Addr×Obj)) (s:Shared) (σ:St) (H:Hp) (E:Value->Shared->Prop),Inv X pins σ H s->(∀ b∈fp,BK X pins H b)->tn i s.heap->J.go i H->
  wpAny (model P w) X.A (pyNext (.ref it)) (fun r s1=>∃ u,r=some u/\
   wpAny (model P w) X.A (letOwnedTupleGo tg (.ref it) u) (fun _ s2=>∃ x H',Inv X pins σ H' s2/\RelV x u/\J.yld i H x H'/\tn (i+1) s2.heap/\∀ b∈fp,H' b=none) E s1) E s
 done:∀ (X:Cx),X.prog=P->X.w=w->X.K=K->X.calm=true->∀ (i:Nat) (pins:List (Addr×Obj)) (s:Shared) (σ:St) (H:Hp) (E:Value->Shared->Prop),Inv X pins σ H s->(∀ b∈fp,BK X pins H b)->tn i s.heap->J.stop i H->
  wpAny (model P w) X.A (pyNext (.ref it)) (fun r s1=>r=none/\Inv X pins σ H s1) E s
 self:∀ (A:Around) (i:Nat) (s:Shared) (Q:Value->Shared->Prop) (E:Value->Shared->Prop),tn i s.heap->Q (.ref it) s->wpAny (model P w) A (pyIter (.ref it)) Q E s
noncomputable abbrev TI:=St->Hp->(It->Hp->Prop)->Prop
noncomputable def PIE (X:Cx) (pins:List (Addr×Obj)) (σ:St) (tg:Expr) (R:It->Hp->Prop) (itv:Value) (s2:Shared):Prop:=
 ∃ (it:Addr) (fp:List Addr) (tn:Nat->Heap->Prop) (J:It) (H':Hp),itv=.ref it/\Inv X pins σ H' s2/\Turn X.prog X.w X.K tg J fp it tn/\tn 0 s2.heap/\(∀ b∈fp,BK X pins H' b)/\R J H'
noncomputable def PI (X:Cx) (tg iter:Expr) (wi:TI):Prop:=
 ∀ (pins:List (Addr×Obj)) (s:Shared) (σ:St) (H:Hp) (R:It->Hp->Prop),Inv X pins σ H s->wi σ H R->
  wpAny (model X.prog X.w) X.A (eval iter X.env) (fun v s1=>wpAny (model X.prog X.w) X.A (pyIter v) (PIE X pins σ tg R) X.xe s1) X.xe s
theorem Jn {M:Model} {A:Around} {E:Value->Shared->Prop} {s:Shared} {tg:Expr} {it:Addr} {u:Value} {o:Obj} {n:String} {vs:Array Value} {Q:Unit->Shared->Prop} (ho:s.heap.get? it=some o) (hc:o.cls=.type n) (hd:o.data=.fields vs)
  (hn:["enumerate","zip","dict_itemiterator","dict_reverseitemiterator","odict_iterator","itertools.zip_longest","itertools.pairwise"].contains n=false) (hQ:Q () s):wpAny M A (letOwnedTupleGo tg (.ref it) u) Q E s:=by
 unfold letOwnedTupleGo;cases tg <;> first
  | exact ag hQ
  | (cases u <;> first
    | exact ag hQ
    | (refine aa (wpAny_load ho ?_)
       rw [hc,hd]
       show wpAny M A (if (["enumerate","zip","dict_itemiterator","dict_reverseitemiterator","odict_iterator","itertools.zip_longest","itertools.pairwise"].contains n && vs[0]? == some (rawInt _))=true then _ else _) Q E s
       rw [if_neg (by intro h; rw [hn,Bool.false_and] at h; cases h)];exact ag hQ))
noncomputable def Itl (K:af) (a:Addr):It:=
 ⟨fun i H=>∃ xs x,SqL K H a xs/\xs[i]?=some x,fun i H x H'=>H'=H/\∀ xs,SqL K H a xs->xs[i]?=some x,fun i H=>∃ xs,SqL K H a xs/\xs.length<=i⟩
noncomputable def Itt (K:af) (a:Addr):It:=
 ⟨fun i H=>∃ xs x,SqT K H a xs/\xs[i]?=some x,fun i H x H'=>H'=H/\∀ xs,SqT K H a xs->xs[i]?=some x,fun i H=>∃ xs,SqT K H a xs/\xs.length<=i⟩
noncomputable def Itr (lo:Int) (n:Nat):It:=⟨fun i _=>i < n,fun i H x H'=>H'=H/\x=.int (lo+i),fun i _=>n<=i⟩
theorem xU {P:Program} {w:World} {K:af} {tg:Expr} (a it:Addr):Turn P w K tg (Itl K a) [it] it (fun i h=>h.IsListIter it a i) where
 mem:=by simp
 obj:=fun i h st b hb=>by
  have e:b=it:=by simpa using hb
  subst e;obtain ⟨o,e,c,d⟩:=st;exact ⟨o,e,fun v z=>by rw [d] at z; cases z⟩
 keep:=fun i h h' st k=>st.at fun o e=>k it (by simp) o e
 item:=by
  intro X hP hw hK hc i pins s σ H E I hf st hg;subst hP hw hK;obtain ⟨xs,x,hq,hx⟩:=hg;obtain ⟨its,rv,p,hz⟩:=I.list hq;obtain ⟨u,hu,ru⟩:=rv.get hx;obtain ⟨f0,f1,f2,f3,f4,f5⟩:=hf it (by simp);refine wpAny_pyNext_list_item st p.isList (x:=u) (by simpa using hu) fun h' st' sb=>?_
  have I1:Inv X pins σ H { s with heap:=h' }:=I.turned (t':=s.toks) (fun b o hb e=>(sb.2 b hb).trans e) f0 f1 f3 f4 f5;obtain ⟨o,e,c,d⟩:=id st';exact ⟨u,rfl,Jn (s:={ s with heap:=h' }) e c d (by decide) ⟨x,H,I1,ru,⟨rfl,fun ys hy=>by rw [I.list_inj hy hq]; exact hx⟩,st',fun b hb=>(hf b hb).1⟩⟩
 done:=by
  intro X hP hw hK hc i pins s σ H E I hf st hg;subst hP hw hK;obtain ⟨xs,hq,hx⟩:=hg;obtain ⟨its,rv,p,hz⟩:=I.list hq;obtain ⟨f0,f1,f2,f3,f4,f5⟩:=hf it (by simp);have hl:=rv.length;exact wpAny_pyNext_list_end (I.ok.hd hc) st p.isList (by simp; omega) fun h' eb=>⟨rfl,I.turned (t':=s.toks) (fun b o hb e=>eb b o hb e) f0 f1 f3 f4 f5⟩
 self:=fun _ _ _ _ _ st h=>wpAny_pyIter_listiter st h
theorem DN {P:Program} {w:World} {K:af} {tg:Expr} (a it:Addr):Turn P w K tg (Itt K a) [it] it (fun i h=>h.IsTupleIter it a i) where
 mem:=by simp
 obj:=fun i h st b hb=>by
  have e:b=it:=by simpa using hb
  subst e;obtain ⟨o,e,c,d⟩:=st;exact ⟨o,e,fun v z=>by rw [d] at z; cases z⟩
 keep:=fun i h h' st k=>st.at fun o e=>k it (by simp) o e
 item:=by
  intro X hP hw hK hc i pins s σ H E I hf st hg;subst hP hw hK;obtain ⟨xs,x,hq,hx⟩:=hg;obtain ⟨its,rv,p,hz⟩:=I.tuple hq;obtain ⟨u,hu,ru⟩:=rv.get hx;obtain ⟨f0,f1,f2,f3,f4,f5⟩:=hf it (by simp);refine wpAny_pyNext_tuple_item st (show s.heap.IsTuple a its.toArray from p) (x:=u) (by simpa using hu) fun h' st' sb=>?_
  have I1:Inv X pins σ H { s with heap:=h' }:=I.turned (t':=s.toks) (fun b o hb e=>(sb.2 b hb).trans e) f0 f1 f3 f4 f5;obtain ⟨o,e,c,d⟩:=id st';exact ⟨u,rfl,Jn (s:={ s with heap:=h' }) e c d (by decide) ⟨x,H,I1,ru,⟨rfl,fun ys hy=>by rw [I.tuple_inj hy hq]; exact hx⟩,st',fun b hb=>(hf b hb).1⟩⟩
 done:=by
  intro X hP hw hK hc i pins s σ H E I hf st hg;subst hP hw hK;obtain ⟨xs,hq,hx⟩:=hg;obtain ⟨its,rv,p,hz⟩:=I.tuple hq;obtain ⟨f0,f1,f2,f3,f4,f5⟩:=hf it (by simp);have hl:=rv.length;exact wpAny_pyNext_tuple_end (I.ok.hd hc) st (show s.heap.IsTuple a its.toArray from p) (by simp; omega) fun h' eb=>⟨rfl,I.turned (t':=s.toks) (fun b o hb e=>eb b o hb e) f0 f1 f3 f4 f5⟩
 self:=fun _ _ _ _ _ st h=>wpAny_pyIter_tupleiter st h
theorem DO {P:Program} {w:World} {K:af} {tg:Expr} (it:Addr) (lo:Int) (n:Nat):Turn P w K tg (Itr lo n) [it] it (fun i h=>IsRangeIter h it (lo+(i:Nat)*1) ((n:Int) - (i:Nat)) 1) where
 mem:=by simp
 obj:=fun i h st b hb=>by
  have e:b=it:=by simpa using hb
  subst e;exact ⟨_,st,fun v z=>by
   have z':Data.fields _=Data.cell v:=z;cases z'⟩
 keep:=fun i h h' st k=>k it (by simp) _ st
 item:=by
  intro X hP hw hK hc i pins s σ H E I hf st hg;subst hP hw hK;obtain ⟨f0,f1,f2,f3,f4,f5⟩:=hf it (by simp);have W:=Walks.range (prog:=X.prog) (w:=X.w) (I.ok.hd hc) it lo 1 n;refine W.item i s _ _ hg st fun v h' tk hv st' kk=>?_;obtain ⟨t,rfl⟩:=hv;have I1:Inv X pins σ H { s with heap:=h',toks:=tk }:=I.turned (fun b o hb e=>kk b o (by simpa using hb) e) f0 f1 f3 f4 f5
  refine ⟨_,rfl,Jn (s:={ s with heap:=h',toks:=tk }) (n:="range_iterator") st' rfl rfl (by decide) ⟨.int (lo+i),H,I1,⟨t,?_⟩,⟨rfl,rfl⟩,st',fun b hb=>(hf b hb).1⟩⟩;rw [Int.mul_one]
 done:=by
  intro X hP hw hK hc i pins s σ H E I hf st hg;subst hP hw hK;obtain ⟨f0,f1,f2,f3,f4,f5⟩:=hf it (by simp);exact wpAny_pyNext_range_end (I.ok.hd hc) st (by have:n<=i:=hg; omega) fun h' eb=>⟨rfl,I.turned (t':=s.toks) (fun b o hb e=>eb b o hb e) f0 f1 f3 f4 f5⟩
 self:=fun _ _ _ _ _ st h=>wpAny_pyIter_rangeiter st h
section
variable {X:Cx} {tg:Expr}
theorem Jo {pins:List (Addr×Obj)} {σ:St} {H:Hp} {s:Shared} {R:It->Hp->Prop} {E:Value->Shared->Prop} {lo hi:Int} {t u v:Tok} {tk:Nat} (I:Inv X pins σ H s) (h1:-(2 ^ 62)<=lo) (h2:lo < 2 ^ 62) (h3:-(2 ^ 62)<=hi) (h4:hi < 2 ^ 62)
  (q:R (Itr lo (hi - lo).toNat) H):wpAny (model X.prog X.w) X.A (pyIter (.ref s.heap.objs.size)) (PIE X pins σ tg R) E { s with heap:=s.heap.push { cls:=.type "range",data:=.fields #[.int lo t,.int hi u,.int 1 v] },toks:=tk }:=by
 refine wpAny_pyIter_range (IsRange.new ..) (small_one h1 h2 h3 h4) ?_;have I1:Inv X pins σ H { s with heap:=s.heap.push { cls:=.type "range",data:=.fields #[.int lo t,.int hi u,.int 1 v] },toks:=tk }:=I.kept fun b o e=>ah _ e;refine ⟨(s.heap.push { cls:=.type "range",data:=.fields #[.int lo t,.int hi u,.int 1 v] }).objs.size,[(s.heap.push { cls:=.type "range",data:=.fields #[.int lo t,.int hi u,.int 1 v] }).objs.size],_,_,H,rfl,
  I1.kept (t':=tk) fun b o e=>ah _ e,DO _ lo (hi - lo).toNat,?_,fun b hb=>?_,q⟩
 ·have e1:lo+((0:Nat):Int)*1=lo:=by simp
  have e2:(((hi - lo).toNat:Nat):Int) - ((0:Nat):Int)=Builtin.Range.rangeSize lo hi 1:=by rw [rangeSize_one]; split <;> omega
  show IsRangeIter _ _ (lo+((0:Nat):Int)*1) ((((hi - lo).toNat:Nat):Int) - ((0:Nat):Int)) 1
  rw [e1,e2];exact ay _ rfl
 ·have e:b=(s.heap.push { cls:=.type "range",data:=.fields #[.int lo t,.int hi u,.int 1 v] }).objs.size:=by simpa using hb
  subst e;exact I1.fpOk (ai _) (I1.hok.fresh (ai _))
noncomputable def UG (wi:TI) (g:TG) (tb:TS):TS:=fun D σ H=>wi σ H fun J H1=>∃ W:Nat->Nat->St->Hp->Prop,(∃ m,W 0 m σ H1)/\∀ i m σ H,W i m σ H->
 (J.stop i H/\D.nx σ H)\/(J.go i H/\∃ N:St->Hp->Prop,(∀ σ' H',N σ' H'->∃ m',m' < m/\W (i+1) m' σ' H')/\∀ x H',J.yld i H x H'->g x σ H' fun σ2 H2=>tb { D with nx:=N,ct:=N,bk:=D.nx } σ2 H2)
noncomputable def tF (fp:List Addr) (h:Heap):List (Addr×Obj):=fp.filterMap fun b=>(h.get? b).map fun o=>(b,o)
theorem iP {fp:List Addr} {h:Heap} {b:Addr} {o:Obj} (hb:b∈fp) (e:h.get? b=some o):(b,o)∈tF fp h:=List.mem_filterMap.mpr ⟨b,hb,by rw [e]; rfl⟩
theorem GO {fp:List Addr} {h:Heap} {p:Addr×Obj} (hp:p∈tF fp h):p.1∈fp/\h.get? p.1=some p.2:=by
 obtain ⟨b,hb,e⟩:=List.mem_filterMap.mp hp;cases q:h.get? b with
 | none=>rw [q] at e; cases e
 | some o=>
  rw [q] at e;have e':(b,o)=p:=bg e;subst e';exact ⟨hb,q⟩
theorem Inv.pinned {pins:List (Addr×Obj)} {σ:St} {H:Hp} {s:Shared} {fp:List Addr} (I:Inv X pins σ H s) (hf:∀ b∈fp,BK X pins H b) (ho:∀ b∈fp,∃ o,s.heap.get? b=some o/\∀ v,o.data≠.cell v):Inv X (pins++tF fp s.heap) σ H s:=
 I.pins_of fun p hp=>(ba.mp hp).elim (fun z=>I.pin p (ao _ z)) fun z=>by
  obtain ⟨hb,e⟩:=GO z;obtain ⟨f0,f1,f2,_⟩:=hf p.1 hb;obtain ⟨o,e',d⟩:=ho p.1 hb;rw [e] at e'; cases e';exact ⟨e,f0,f1,f2,d⟩
theorem Inv.unpinned {pins pl:List (Addr×Obj)} {σ:St} {H:Hp} {s:Shared} (I:Inv X (pins++pl) σ H s):Inv X pins σ H s:=I.pins_of fun p hp=>I.pin p (ao _ (fc _ hp))
theorem PP {iter:Expr} {body:List Stmt} {wi:TI} {g:TG} {tb:TS} {pos:Pos} (hp:PassesOwn (model X.prog X.w) X.A X.env X.xe) (hc:X.calm=true) (hi:PI X tg iter wi) (hg:PG X tg g) (hb:PSs X body tb)
  (hs:∀ x,ia iter X.env x=pure x:=by intro _; rfl):PS X (.For tg iter body [] pos) (UG wi g tb):=by
 intro pins s σ H D I h;refine wpAny_For (thn (hi pins s σ H _ I h) fun v s1 h1=>thn h1 fun itv s2 h2=>?_) hs;obtain ⟨it,fp,tn,J,H2,e,I2,T,st2,f2,W,⟨m0,w0⟩,turn⟩:=h2;subst e
 -- what stays true of the iterator's objects through the loop
 have stat:∀ {H':Hp},(∀ b∈fp,H' b=none)->∀ b∈fp,BK X pins H' b:=fun hn b hb=>⟨hn b hb,(f2 b hb).2⟩;refine codeAny_forLoop_any (fun n s'=>∃ i σ' H',Inv X pins σ' H' s'/\tn i s'.heap/\(∀ b∈fp,H' b=none)/\W i n σ' H') ?_ m0 ⟨0,σ,H2,I2,st2,fun b hb=>(f2 b hb).1,w0⟩;rintro n s3 ⟨i,σ3,H3,I3,st3,fr3,w3⟩;rcases turn i n σ3 H3 w3 with ⟨stop,qn⟩ | ⟨go,N,hN,step⟩
 ·refine wpAny_passesOwn hp (thn (T.done X rfl rfl rfl hc i pins s3 σ3 H3 X.xe I3 (stat fr3) st3 stop) fun r s4 ⟨hr,I4⟩=>?_);subst hr;exact wpAny_execs_nil ⟨σ3,H3,I4,qn⟩
 ·refine wpAny_passesOwn hp (thn (T.item X rfl rfl rfl hc i pins s3 σ3 H3 X.xe I3 (stat fr3) st3 go) fun r s4 ⟨u,hr,h4⟩=>?_);subst hr;refine wpAny_passesOwn hp (thn h4 fun _ s5 hz=>?_);obtain ⟨x,H5,I5,r5,y5,st5,fr5⟩:=hz;have I5':=I5.pinned (stat fr5) (T.obj _ _ st5);refine wpAny_passesOwn hp (thn (hg _ s5 σ3 H5 x u _ I5' r5 (step x H5 y5)) fun _ s6 ⟨σ6,H6,I6,q6⟩=>?_);refine wpAny_passesOwn hp (thn (hb _ s6 σ6 H6 _ I6 q6) fun f s7 q7=>?_);have again:∀ {σ7:St} {H7:Hp},Inv X (pins++tF fp s5.heap) σ7 H7 s7->N σ7 H7->∃ m,m < n/\∃ i σ' H',Inv X pins σ' H' s7/\tn i s7.heap/\(∀ b∈fp,H' b=none)/\W i m σ' H':=fun {σ7 H7} I7 n7=>by
   obtain ⟨m',hm,w7⟩:=hN σ7 H7 n7;refine ⟨m',hm,i+1,σ7,H7,I7.unpinned,T.keep _ _ _ st5 fun b hb o e=>(I7.pin (b,o) (ao _ (ao _ (iP hb e)))).1,fun b hb=>?_,w7⟩;obtain ⟨o,e,d⟩:=T.obj _ _ st5 b hb;exact (I7.pin (b,o) (ao _ (ao _ (iP hb e)))).2.1
  cases f with
  | next=>obtain ⟨σ7,H7,I7,n7⟩:=q7; exact again I7 n7
  | cont=>obtain ⟨σ7,H7,I7,n7⟩:=q7; exact again I7 n7
  | brk=>obtain ⟨σ7,H7,I7,q7⟩:=q7; exact ⟨σ7,H7,I7.unpinned,q7⟩
  | ret v=>obtain ⟨x7,σ7,H7,I7,r7,q7⟩:=q7; exact ⟨x7,σ7,H7,I7.unpinned,r7,q7⟩
end
noncomputable abbrev R2:=V->V->Hp->VK->Prop
noncomputable def OpR (X:Cx) (f:Value->Value->Sem Value) (r:R2):Prop:=
 ∀ (pins:List (Addr×Obj)) (s:Shared) (σ:St) (H:Hp) (x y:V) (v u:Value) (Q:VK),Inv X pins σ H s->RelV x v->RelV y u->r x y H Q->
  wpAny (model X.prog X.w) X.A (f v u) (EP X pins σ Q) X.xe s
noncomputable def UnR (X:Cx) (f:Value->Sem Value) (r:V->Hp->VK->Prop):Prop:=
 ∀ (pins:List (Addr×Obj)) (s:Shared) (σ:St) (H:Hp) (x:V) (v:Value) (Q:VK),Inv X pins σ H s->RelV x v->r x H Q->
  wpAny (model X.prog X.w) X.A (f v) (EP X pins σ Q) X.xe s
noncomputable def bT (X:Cx) (f:Value) (r:List V->Hp->VK->Prop):Prop:=
 ∀ (pins:List (Addr×Obj)) (s:Shared) (σ:St) (H:Hp) (xs:List V) (us:List Value) (Q:VK),Inv X pins σ H s->aN xs us->r xs H Q->
  wpAny (model X.prog X.w) X.A (call f us) (EP X pins σ Q) X.xe s
noncomputable def UH (X:Cx) (r:V->Hp->(Bool->Hp->Prop)->Prop):Prop:=
 ∀ (pins:List (Addr×Obj)) (s:Shared) (σ:St) (H:Hp) (x:V) (v:Value) (Q:Bool->Hp->Prop),Inv X pins σ H s->RelV x v->r x H Q->
  wpAny (model X.prog X.w) X.A (truthy v) (TP X pins σ Q) X.xe s
noncomputable def tOp (r:R2) (ta tb:TE):TE:=fun σ H Q=>ta σ H fun x H1=>tb σ H1 fun y H2=>r x y H2 Q
noncomputable def tUn (r:V->Hp->VK->Prop) (ta:TE):TE:=fun σ H Q=>ta σ H fun x H1=>r x H1 Q
noncomputable def rI (C:Int->Int->Prop) (g:Int->Int->V):R2:=fun x y H Q=>∃ i j,x=.int i/\y=.int j/\C i j/\Q (g i j) H
noncomputable def rI0 (g:Int->Int->V):R2:=fun x y H Q=>∃ i j,x=.int i/\y=.int j/\Q (g i j) H
noncomputable def rU (g:Int->V):V->Hp->VK->Prop:=fun x H Q=>∃ i,x=.int i/\Q (g i) H
section
variable {X:Cx} {a b c:Expr} {ta tb tc:TE} {pos:Pos}
theorem PQ (ha:PE X a ta) (hb:PE X b tb) {pins:List (Addr×Obj)} {s:Shared} {σ:St} {H:Hp} {R:V->V->Hp->Prop} (I:Inv X pins σ H s)
  (h:ta σ H fun x H1=>tb σ H1 fun y H2=>R x y H2) {Q:Value->Shared->Prop} {f:Value->Value->Sem Value}
  (hf:∀ v u s2 x y H2,Inv X pins σ H2 s2->RelV x v->RelV y u->R x y H2->wpAny (model X.prog X.w) X.A (f v u) Q X.xe s2):
  wpAny (model X.prog X.w) X.A (eval a X.env) (fun v s₁=>wpAny (model X.prog X.w) X.A (eval b X.env) (fun u s₂=>wpAny (model X.prog X.w) X.A (f v u) Q X.xe s₂) X.xe s₁) X.xe s:=by
 refine thn (ha pins s σ H _ I h) fun v s1 hz=>?_;obtain ⟨x,H1,I1,r1,q1⟩:=hz;refine thn (hb pins s1 σ H1 _ I1 q1) fun u s2 hz=>?_;obtain ⟨y,H2,I2,r2,q2⟩:=hz;exact hf v u s2 x y H2 I2 r1 r2 q2
theorem S6 {op:Operator} {r:R2} (ho:OpR X (fe op) r) (ha:PE X a ta) (hb:PE X b tb):PE X (.BinOp a op b pos) (tOp r ta tb):=by
 intro pins s σ H Q I h;exact wpAny_BinOp (PQ ha hb I h fun v u s2 x y H2 I2 rx ry q=>ho pins s2 σ H2 x y v u Q I2 rx ry q)
theorem S7 {op:UnaryOp} {r:V->Hp->VK->Prop} (ho:UnR X (unaryOp op) r) (ha:PE X a ta):PE X (.UnaryOp op a pos) (tUn r ta):=by
 intro pins s σ H Q I h;exact UnaryOp_ (thn (ha pins s σ H _ I h) fun v s1 ⟨x,H1,I1,r1,q1⟩=>ho pins s1 σ H1 x v Q I1 r1 q1)
theorem opI {f:Value->Value->Sem Value} {C:Int->Int->Prop} {g:Int->Int->Int}
  (rule:∀ (i j:Int) (t u:Tok) (s:Shared) (Q:Value->Shared->Prop) (E:Value->Shared->Prop),C i j->Q (.int (g i j) s.toks) { s with toks:=s.toks+1 }->wpAny (model X.prog X.w) X.A (f (.int i t) (.int j u)) Q E s):
  OpR X f (rI C fun i j=>.int (g i j)):=by
 intro pins s σ H x y v u Q I rx ry h;obtain ⟨i,j,rfl,rfl,hc,q⟩:=h;obtain ⟨t,rfl⟩:=rx;obtain ⟨t',rfl⟩:=ry;exact rule i j t t' s _ _ hc ⟨.int (g i j),H,I.tok _,⟨_,rfl⟩,q⟩
theorem S8 {f:Value->Value->Sem Value} {g:Int->Int->Int}
  (rule:∀ (i j:Int) (t u:Tok) (s:Shared) (Q:Value->Shared->Prop) (E:Value->Shared->Prop),Q (.int (g i j) s.toks) { s with toks:=s.toks+1 }->wpAny (model X.prog X.w) X.A (f (.int i t) (.int j u)) Q E s):
  OpR X f (rI0 fun i j=>.int (g i j)):=by
 intro pins s σ H x y v u Q I rx ry h;obtain ⟨i,j,rfl,rfl,q⟩:=h;obtain ⟨t,rfl⟩:=rx;obtain ⟨t',rfl⟩:=ry;exact rule i j t t' s _ _ ⟨.int (g i j),H,I.tok _,⟨_,rfl⟩,q⟩
theorem PR {f:Value->Value->Sem Value} {g:Int->Int->Bool}
  (rule:∀ (i j:Int) (t u:Tok) (s:Shared) (Q:Value->Shared->Prop) (E:Value->Shared->Prop),Q (.bool (g i j)) s->wpAny (model X.prog X.w) X.A (f (.int i t) (.int j u)) Q E s):
  OpR X f (rI0 fun i j=>.bl (g i j)):=by
 intro pins s σ H x y v u Q I rx ry h;obtain ⟨i,j,rfl,rfl,q⟩:=h;obtain ⟨t,rfl⟩:=rx;obtain ⟨t',rfl⟩:=ry;exact rule i j t t' s _ _ ⟨.bl (g i j),H,I,rfl,q⟩
noncomputable def Jp (i j:Int):Prop:=0 < j/\j < 1073741824
noncomputable def GP (i j:Int):Prop:=0<=j/\j<=1000000/\i.natAbs < 2 ^ 64
noncomputable def BL (i j:Int):Prop:=(-(2 ^ 64) < i/\i < 2 ^ 64)\/(-(2 ^ 64) < j/\j < 2 ^ 64)
theorem BL.ok {i j:Int} (h:BL i j):IntMulOk i j:=by
 rcases h with ⟨h1,h2⟩ | ⟨h1,h2⟩
 ·exact .of_left (intBits_le_64 h1 h2)
 ·exact .of_right (intBits_le_64 h1 h2)
theorem PU:OpR X (fe .Add) (rI0 fun i j=>.int (i+j)):=S8 fun _ _ _ _ _ _ _ q=>add_int q
theorem PY:OpR X (fe .Sub) (rI0 fun i j=>.int (i - j)):=S8 fun _ _ _ _ _ _ _ q=>sub_int q
theorem PZ:OpR X (fe .Mult) (rI BL fun i j=>.int (i*j)):=opI fun _ _ _ _ _ _ _ hc q=>mul_int q hc.ok
theorem MY:OpR X (fe .FloorDiv) (rI Jp fun i j=>.int (i / j)):=opI fun i j _ _ _ _ _ hc q=>by
 have h1:(0:Int) < j:=hc.1;have h2:j < 1073741824:=hc.2;exact floordiv_int (by omega) (by rw [Int.fdiv_eq_ediv_of_nonneg i (by omega)]; exact q) (.inl (PyProof.noPylong_small (by omega)))
theorem Q1:OpR X (fe .Mod) (rI (fun _ j=>0 < j) fun i j=>.int (i % j)):=opI fun i j _ _ _ _ _ hc q=>by
 have h1:(0:Int) < j:=hc;exact mod_int' (by omega) (by rw [Int.fmod_eq_emod_of_nonneg i (by omega)]; exact q)
theorem Q2:OpR X (fe .Pow) (rI GP fun i j=>.int (i ^ j.toNat)):=opI fun _ _ _ _ _ _ _ hc q=>pow_int_small hc.1 hc.2.1 hc.2.2 q
theorem unI {f:Value->Sem Value} {g:Int->Int}
  (rule:∀ (i:Int) (t:Tok) (s:Shared) (Q:Value->Shared->Prop) (E:Value->Shared->Prop),Q (.int (g i) s.toks) { s with toks:=s.toks+1 }->wpAny (model X.prog X.w) X.A (f (.int i t)) Q E s):
  UnR X f (rU fun i=>.int (g i)):=by
 intro pins s σ H x v Q I rx h;obtain ⟨i,rfl,q⟩:=h;obtain ⟨t,rfl⟩:=rx;exact rule i t s _ _ ⟨.int (g i),H,I.tok _,⟨_,rfl⟩,q⟩
theorem Q4:UnR X (unaryOp .USub) (rU fun i=>.int (-i)):=unI fun _ _ _ _ _ q=>neg_int q
end
section
variable {X:Cx} {a b c:Expr} {ta tb tc:TE} {pos:Pos}
theorem tG {pins:List (Addr×Obj)} {σ:St} {H:Hp} {s:Shared} {Q:VK} {k k':Bool} (I:Inv X pins σ H s) (q:Q (.bl k) H) (e:k=k'):EP X pins σ Q (.bool k') s:=by
 subst e;exact ⟨.bl k,H,I,rfl,q⟩
theorem S9:OpR X (cz .Lt) (rI0 fun i j=>.bl (decide (i < j))):=PR fun _ _ _ _ _ _ _ q=>lt_int q
theorem Sa:OpR X (cz .LtE) (rI0 fun i j=>.bl (decide (i<=j))):=PR fun _ _ _ _ _ _ _ q=>le_int q
theorem Sb:OpR X (cz .Gt) (rI0 fun i j=>.bl (decide (j < i))):=PR fun _ _ _ _ _ _ _ q=>gt_int q
theorem GQ:OpR X (cz .Lt) (fun x y H Q=>∃ i j,x=.str i/\y=.str j/\Q (.bl (decide (i.cps.toList < j.cps.toList))) H):=by
 intro pins s σ H x y v u Q I rx ry h;obtain ⟨i,j,rfl,rfl,q⟩:=h;obtain ⟨t,rfl⟩:=rx;obtain ⟨t',rfl⟩:=ry;exact lt_str (tG I q rfl)
theorem Q6:OpR X (cz .Is) (fun x y H Q=>y=.non/\Q (.bl (decide (x=.non))) H):=by
 intro pins s σ H x y v u Q I rx ry h;obtain ⟨rfl,q⟩:=h;cases ry
 refine is_none_gen (tG I q ?_);cases x <;> first
  | (cases rx; rfl)
  | (obtain ⟨t,rfl⟩:=rx; rfl)
theorem MZ:OpR X (cz .IsNot) (fun x y H Q=>y=.non/\Q (.bl (!decide (x=.non))) H):=by
 intro pins s σ H x y v u Q I rx ry h;obtain ⟨rfl,q⟩:=h;cases ry
 refine isnot_none_gen (tG I q ?_);cases x <;> first
  | (cases rx; rfl)
  | (obtain ⟨t,rfl⟩:=rx; rfl)
theorem OpR.or {f:Value->Value->Sem Value} {r r':R2} (h:OpR X f r) (h':OpR X f r'):OpR X f (fun x y H Q=>r x y H Q\/r' x y H Q):=by
 intro pins s σ H x y v u Q I rx ry q;rcases q with q | q
 ·exact h pins s σ H x y v u Q I rx ry q
 ·exact h' pins s σ H x y v u Q I rx ry q
theorem Jq (b:Expr) {op:CmpOp} (h:op≠.In:=by decide) (h2:op≠.NotIn:=by decide):behindInMarks op b=false:=by
 have e1:(op == CmpOp.In)=false:=by cases op <;> first | rfl | exact absurd rfl h
 have e2:(op == CmpOp.NotIn)=false:=by cases op <;> first | rfl | exact absurd rfl h2
 cases b <;> simp [behindInMarks,e1,e2]
theorem N0 {op:CmpOp} {r:R2} (ho:OpR X (cz op) r) (ha:PE X a ta) (hb:PE X b tb) (hm:behindInMarks op b=false):PE X (.Compare a [op] [b] pos) (tOp r ta tb):=by
 intro pins s σ H Q I h;exact wpAny_Compare1 (PQ ha hb I h fun v u s2 x y H2 I2 rx ry q=>ho pins s2 σ H2 x y v u Q I2 rx ry q) hm
noncomputable def Sd (t:TE):TT:=fun σ H Q=>t σ H fun x H'=>∃ k,x=.bl k/\Q k H'
noncomputable def Jr (r r':R2) (ta tb tc:TE):TE:=fun σ H Q=>ta σ H fun x H1=>tb σ H1 fun y H2=>r x y H2 fun z H3=>∃ k,z=.bl k/\
 (if k=true then tc σ H3 fun w' H4=>r' y w' H4 Q else Q (.bl false) H3)
theorem Js {op op':CmpOp} {r r':R2} (ho:OpR X (cz op) r) (ho':OpR X (cz op') r') (ha:PE X a ta) (hb:PE X b tb) (hc:PE X c tc)
  (hm:lastMarks [op,op'] [b,c]=false:=by with_unfolding_all rfl):PT X (.Compare a [op,op'] [b,c] pos) (Sd (Jr r r' ta tb tc)):=by
 intro pins s σ H Q I h;refine isTrue_chain (thn (ha pins s σ H _ I h) fun v s1 ⟨x,H1,I1,r1,q1⟩=>test_link (thn (hb pins s1 σ H1 _ I1 q1) fun u s2 ⟨y,H2,I2,r2,q2⟩=>
  thn (ho pins s2 σ H2 x y v u _ I2 r1 r2 q2) fun d s3 ⟨z,H3,I3,r3,k,e,q3⟩=>?_)) hm
 subst e;cases r3
 refine ib ?_;cases k with
 | false=>
  obtain ⟨k',e',q'⟩:=q3;cases e'
  exact ite_ff ⟨H3,I3,q'⟩
 | true=>
  refine ite_tt (test_last (thn (hc pins s3 σ H3 _ I3 q3) fun w' s4 ⟨z',H4,I4,r4,q4⟩=>thn (ho' pins s4 σ H4 y z' u w' _ I4 r2 r4 q4) fun d' s5 hz=>?_));obtain ⟨z2,H5,I5,r5,k2,e2,q5⟩:=hz;subst e2;cases r5
  exact ib ⟨H5,I5,q5⟩
noncomputable def DP (K:af) (x:V) (H:Hp) (k:Bool):Prop:=
 match x with
 | .non=>k=false
 | .bl b=>k=b
 | .int i=>k=(i != 0)
 | .str y=>y.length<=au/\k=((y.length:Int) != 0)
 | .byt y=>y.size<=au/\k=((y.size:Int) != 0)
 | .ref p=>(∃ xs,SqL K H p xs/\k=!xs.isEmpty)\/(∃ xs,SqT K H p xs/\k=!xs.isEmpty)\/∃ kvs,H p=some (.dK kvs)/\k=!kvs.isEmpty
 | _=>False
theorem DQ {κ:Type} {kvs:List (κ×V)} {vs:List (κ×Value)} (r:KV kvs vs):(!vs.isEmpty)=!kvs.isEmpty:=by
 cases r <;> rfl
theorem tH {xs:List V} {its:List Value} (r:aN xs its):(!its.toArray.isEmpty)=!xs.isEmpty:=by
 cases r <;> simp
theorem lW:(au:Nat) < 2 ^ 63:=by rw [c3]; decide
theorem Jt:UH X (fun x H Q=>∃ k,DP X.K x H k/\Q k H):=by
 intro pins s σ H x v Q I rx h;obtain ⟨k,e,q⟩:=h;have hl:=lW;have hs:au=16777216:=c3;cases x with
 | non=>
  cases rx
  have e':k=false:=e;subst e';exact truthy_none ⟨H,I,q⟩
 | bl b=>
  cases rx
  have e':k=b:=e;subst e';exact ib ⟨H,I,q⟩
 | int i=>
  obtain ⟨t,rfl⟩:=rx;have e':k=(i != 0):=e;subst e';exact PySem.P.truthy_int ⟨H,I,q⟩
 | str y=>
  obtain ⟨t,rfl⟩:=rx;obtain ⟨hy,e'⟩:y.length<=au/\k=((y.length:Int) != 0):=e;subst e';exact PySem.P.truthy_str (by omega) ⟨H,I.tok _,q⟩
 | byt y=>
  obtain ⟨t,rfl⟩:=rx;obtain ⟨hy,e'⟩:y.size<=au/\k=((y.size:Int) != 0):=e;subst e';exact PySem.W.truthy_bytes (by omega) ⟨H,I.tok _,q⟩
 | ref p=>
  cases rx
  have e':(∃ xs,SqL X.K H p xs/\k=!xs.isEmpty)\/(∃ xs,SqT X.K H p xs/\k=!xs.isEmpty)\/∃ kvs,H p=some (.dK kvs)/\k=!kvs.isEmpty:=e;rcases e' with ⟨xs,hx,e'⟩ | ⟨xs,hx,e'⟩ | ⟨kvs,hx,e'⟩
  ·subst e';obtain ⟨its,r,pl,hz⟩:=I.list hx;have hlen:=r.length;exact wpAny_truthy_list pl.isList (by simp only [ar]; omega) ⟨H,I.tok _,by rw [tH r]; exact q⟩
  ·subst e';obtain ⟨its,r,pl,hz⟩:=I.tuple hx;have hlen:=r.length;exact truthy_tuple pl (by simp only [ar]; omega) ⟨H,I.tok _,by rw [tH r]; exact q⟩
  ·subst e';obtain ⟨hz,hS,vs,r,m⟩:kvs.length<=au/\(p == fg)=false/\∃ vs,KV kvs vs/\s.heap.DictOf (bN X.prog X.w) p vs:=I.hok p _ hx;have hlen:kvs.length=vs.length:=eu r;exact wpAny_truthy_dict hS m (by omega) ⟨H,I.tok _,by rw [DQ r]; exact q⟩
 | _=>exact (show False from e).elim
theorem Ju (ha:PE X a ta) (he:∀ whole,isTrue a X.env whole=(do let v <- whole; standAt a.pos; holding [v] (truthy v))):
  PT X a (fun σ H Q=>ta σ H fun x H'=>∃ k,DP X.K x H' k/\Q k H'):=by
 intro pins s σ H Q I h;exact isTrue_plain (thn (ha pins s σ H _ I h) fun v s1 ⟨x,H1,I1,r1,q1⟩=>Jt pins s1 σ H1 x v Q I1 r1 q1) (he _)
theorem DR:OpR X (fe .Add) (fun x y H Q=>∃ i j,x=.str i/\y=.str j/\i.length+j.length<=au/\Q (.str (i++j)) H):=by
 intro pins s σ H x y v u Q I rx ry h;obtain ⟨i,j,rfl,rfl,hz,q⟩:=h;obtain ⟨t,rfl⟩:=rx;obtain ⟨t',rfl⟩:=ry;exact add_str (fun t' tk=>⟨.str (i++j),H,I.tok _,⟨_,rfl⟩,q⟩) hz
theorem vals1 {x:V} {us:List Value} (r:aN [x] us):∃ u,us=[u]/\RelV x u:=by
 cases r with
 | cons r1 r2=>cases r2; exact ⟨_,rfl,r1⟩
theorem vals2 {x y:V} {us:List Value} (r:aN [x,y] us):∃ u w',us=[u,w']/\RelV x u/\RelV y w':=by
 cases r with
 | cons r1 r2=>
  cases r2 with
  | cons r3 r4=>cases r4; exact ⟨_,_,rfl,r1,r3⟩
theorem GR (hc:X.calm=true):bT X (.builtin "max") (fun xs H Q=>∃ i j,xs=[.int i,.int j]/\Q (.int (if j > i then j else i)) H):=by
 intro pins s σ H xs us Q I r h;obtain ⟨i,j,rfl,q⟩:=h;obtain ⟨u,w',rfl,⟨t,rfl⟩,⟨t',rfl⟩⟩:=vals2 r;refine max_two_ints (I.ok.hd hc) fun h' tk k=>⟨_,H,I.kept k,?_,q⟩
 by_cases hj:j > i
 ·rw [if_pos hj,if_pos hj]; exact ⟨_,rfl⟩
 ·rw [if_neg hj,if_neg hj]; exact ⟨_,rfl⟩
theorem GS (hc:X.calm=true):bT X (.builtin "min") (fun xs H Q=>∃ i j,xs=[.int i,.int j]/\Q (.int (if j < i then j else i)) H):=by
 intro pins s σ H xs us Q I r h;obtain ⟨i,j,rfl,q⟩:=h;obtain ⟨u,w',rfl,⟨t,rfl⟩,⟨t',rfl⟩⟩:=vals2 r;refine min_two_ints (I.ok.hd hc) fun h' tk k=>⟨_,H,I.kept k,?_,q⟩
 by_cases hj:j < i
 ·rw [if_pos hj,if_pos hj]; exact ⟨_,rfl⟩
 ·rw [if_neg hj,if_neg hj]; exact ⟨_,rfl⟩
noncomputable def UI (K:af) (x:V) (H:Hp) (n:Nat):Prop:=
 match x with
 | .str y=>y.length<=au/\n=y.length
 | .byt y=>y.size<=au/\n=y.size
 | .ref p=>(∃ xs,SqL K H p xs/\n=xs.length)\/∃ xs,SqT K H p xs/\n=xs.length
 | _=>False
theorem Jv:bT X (.builtin "len") (fun xs H Q=>∃ x n,xs=[x]/\UI X.K x H n/\Q (.int n) H):=by
 intro pins s σ H xs us Q I r h;obtain ⟨x,n,rfl,e,q⟩:=h;obtain ⟨u,rfl,rx⟩:=vals1 r;have hl:=lW;have hs:au=16777216:=c3;cases x with
 | str y=>
  obtain ⟨t,rfl⟩:=rx;obtain ⟨hy,e'⟩:y.length<=au/\n=y.length:=e;subst e';exact len_str (by omega) ⟨.int _,H,I.tok _,⟨_,rfl⟩,q⟩
 | byt y=>
  obtain ⟨t,rfl⟩:=rx;obtain ⟨hy,e'⟩:y.size<=au/\n=y.size:=e;subst e';exact PySem.W.len_bytes (by omega) ⟨.int _,H,I.tok _,⟨_,rfl⟩,q⟩
 | ref p=>
  cases rx
  have e':(∃ xs,SqL X.K H p xs/\n=xs.length)\/∃ xs,SqT X.K H p xs/\n=xs.length:=e;rcases e' with ⟨xs,hx,e'⟩ | ⟨xs,hx,e'⟩
  ·subst e';obtain ⟨its,r',pl,hz⟩:=I.list hx;have hlen:=r'.length;exact Calls.call_len_list pl.isList (by simp only [ar]; omega) ⟨.int xs.length,H,I.tok _,⟨_,by simp only [ar]; rw [hlen]⟩,q⟩
  ·subst e';obtain ⟨its,r',pl,hz⟩:=I.tuple hx;have hlen:=r'.length;exact len_tuple pl (by simp only [ar]; omega) ⟨.int xs.length,H,I.tok _,⟨_,by simp only [ar]; rw [hlen]⟩,q⟩
 | _=>exact (show False from e).elim
end
structure Vw (h:Heap) (x dx C:Addr) (mA:Str->Option Value):Prop where
 obj:h.get? x=some (PySem.W.instObj C dx)
 ns:h.Ns1 dx mA
 ne:dx≠x
theorem sG.some_of {v:V} {o:Option Value} (r:sG (some v) o):∃ u,o=some u/\RelV v u:=by
 cases o with
 | none=>exact (show False from r).elim
 | some u=>exact ⟨u,rfl,r⟩
structure Cls (K:af) (C:Addr):Prop where
 pg:PySem.W.plainGet K C Str.empty=true
 hd:PySem.W.hasDictIn K C=true
 po:PySem.W.plainOver K C=true
 sa:kr K (.ref C) "__setattr__" = some (some (.builtin "object.__setattr__"))
structure Con (K:af) (C:Addr) (f:Str) (v:V) (u:Value):Prop where
 at_:kr K (.ref C) f=some (some u)
 rel:RelV v u
 get:PySem.W.specialIn K u "__get__" = some none
 cp:PySem.W.copiedNames.contains f=false
structure Vx (K:af) (C:Addr) (m:Str) (f:Addr):Prop where
 at_:kr K (.ref C) m=some (some (.ref f))
 fn:PySem.W.isFn K (.ref f)=true
 kp:bp K (.ref f)=true
section
variable {X:Cx} {pins:List (Addr×Obj)} {σ:St} {H:Hp} {s:Shared} {A:Around} {E:Value->Shared->Prop} {Q:Value->Shared->Prop} {c:Value} {b:Bool}
inductive tI (K:af) (H:Hp):V->Value->Prop where
 | non:tI K H .non (.type "NoneType")
 | bl (x:Bool):tI K H (.bl x) (.type "bool")
 | int (i:Int):tI K H (.int i) (.type "int")
 | str (x:Str):tI K H (.str x) (.type "str")
 | flt (x:UInt64):tI K H (.flt x) (.type "float")
 | lst {a:Addr} {xs:List V} (e:H a=some (.lst xs)):tI K H (.ref a) (.type "list")
 | frz {a:Addr} {o:Obj} {xs:List V} (e:H a=some (.frz o (.lst xs))):tI K H (.ref a) (.type "list")
 | tup {a:Addr} {xs:List V} (e:H a=some (.tup xs)):tI K H (.ref a) (.type "tuple")
 | dK {a:Addr} {kvs:List (Key×V)} (e:H a=some (.dK kvs)):tI K H (.ref a) (.type "dict")
 | dT {a:Addr} {kvs:List (List Key×V)} (e:H a=some (.dT kvs)):tI K H (.ref a) (.type "dict")
 | ins {a C dx:Addr} {fs:List (Str×V)} (e:H a=some (.ins C dx fs)) (cl:Cls K C) (ha:kr K (.ref C) "__class__" = some (some (.builtin "object.__class__")))
   (hn:PySem.W.specialIn K (.builtin "object.__class__") "__get__" = some (some (.builtin "getset_descriptor.__get__"))) (htk:PySem.W.takesIn K (.builtin "object.__class__")=some true)
   (hm:PySem.W.mroIn K C (.type "object")=some true):tI K H (.ref a) (.ref C)
end
structure fQ (k:Nat) (A:Around):Prop where
 hd:A.handled=none
 dp:A.depth+3*k+5 < recursionLimit
 un:A.units+16*k+200 < cLine
theorem fQ.mono {j k:Nat} {A:Around} (r:fQ k A) (h:j<=k):fQ j A:=⟨r.hd,by have:=r.dp; omega,by have:=r.un; omega⟩
theorem fQ.deeper {k:Nat} {A:Around} (r:fQ (k+1) A) (env:Env):fQ k (A.deeper env):=
 ⟨r.hd,by have:=r.dp; show A.depth+1+3*k+5 < _; omega,by have:=r.un; show A.units+3+16*k+200 < _; omega⟩
theorem fQ.in1 {k:Nat} {A:Around} (r:fQ (k+1) A):fQ k A.in1:=
 ⟨r.hd,by have:=r.dp; show A.depth+3*k+5 < _; omega,by have:=r.un; show A.units+1+16*k+200 < _; omega⟩
theorem fQ.depth {k:Nat} {A:Around} (r:fQ k A):A.depth < recursionLimit:=by have:=r.dp; omega
theorem fQ.units {k:Nat} {A:Around} (r:fQ k A):A.units+64 < cLine:=by have:=r.un; omega
noncomputable def Q7:TA:=fun _ H Q=>Q [] H
noncomputable def Jw (ta:TE) (tr:TA):TA:=fun σ H Q=>ta σ H fun x H1=>tr σ H1 fun xs H2=>Q (x :: xs) H2
section
variable {X:Cx} {e:Expr} {es:List Expr} {te:TE} {t:TA} {pos:Pos}
theorem Ad:PA X [] Q7:=fun _ _ _ _ H Q I h=>Calls.spliced_nil ⟨[],H,I,.nil,h⟩
theorem sS (ha:PE X e te) (hr:PA X es t) (hs:bz (e :: es) X.env=(false,eval e X.env) :: bz es X.env:=by rfl):PA X (e :: es) (Jw te t):=by
 intro pos pins s σ H Q I h;rw [hs]
 show wpAny _ _ (spliced ((false,eval e X.env) :: backTo pos (bz es X.env))) _ _ s
 refine Calls.spliced_cons (thn (ha pins s σ H _ I h) fun u s1 hz=>?_);obtain ⟨x,H1,I1,r1,q1⟩:=hz;exact thn (hr pos pins s1 σ H1 _ I1 q1) fun us s2 ⟨xs,H2,I2,r2,q2⟩=>⟨x :: xs,H2,I2,.cons r1 r2,q2⟩
noncomputable def UJ (t:TA):TE:=fun σ H Q=>t σ H fun xs H1=>xs.length<=au/\∀ p,H1 p=none->Q (.ref p) (upd H1 p (.tup xs))
noncomputable def UK (t:TA):TE:=fun σ H Q=>t σ H fun xs H1=>xs.length<=au/\∀ p,H1 p=none->Q (.ref p) (upd H1 p (.lst xs))
theorem Q8 {x1} (h:PA X es t):PE X (.Tuple es x1 pos) (UJ t):=by
 intro pins s σ H Q I hq;refine wpAny_Tuple_spliced (thn (h pos pins s σ H _ I hq) fun us s1 ⟨xs,H1,I1,r,z,q⟩=>⟨by rw [<- r.length]; exact z,?_⟩);have hf:H1 s1.heap.objs.size=none:=I1.hok.fresh (ai _);refine ⟨.ref s1.heap.objs.size,upd H1 s1.heap.objs.size (.tup xs),I1.laid (t':=s1.toks) (fun b u e=>ah _ e) (ai _) ?_,rfl,q _ hf⟩;exact ⟨z,us,r,⟨_,ay _ rfl,rfl,⟨_,rfl⟩,rfl⟩⟩
theorem Q9 (h:PA X es t):PE X (.List es pos) (UK t):=by
 intro pins s σ H Q I hq;refine wpAny_List_spliced (thn (h pos pins s σ H _ I hq) fun us s1 ⟨xs,H1,I1,r,z,q⟩=>⟨by rw [<- r.length]; exact z,?_⟩);have hf:H1 s1.heap.objs.size=none:=I1.hok.fresh (ai _);refine ⟨.ref s1.heap.objs.size,upd H1 s1.heap.objs.size (.lst xs),I1.laid (t':=s1.toks) (fun b u e=>ah _ e) (ai _) ?_,rfl,q _ hf⟩;exact ⟨z,us,0,r,ay _ rfl⟩
end
noncomputable abbrev Sp:=List V->Hp->VK->XK->Prop
noncomputable abbrev CXT:=List Env->Hp->Shared->XK->Value->Shared->Prop
structure DS (P:Program) (w:World) (K:af) (mg:Str->Option Value) (base:Heap) (A:Around) (outer:List Env) (s:Shared) (H:Hp):Prop where
 frames:A.frames=some outer
 mod:Mod K mg base
 bs:∀ b o,base.get? b=some o->s.heap.get? b=some o/\H b=none
 bsz:base.objs.size<=s.heap.objs.size
 funs:s.heap.FunFrames base outer
 frf:∀ b∈frs outer,H b=none
 hok:HOk P w H s.heap
 bare:AllBare s.gens
noncomputable def CE (outer:List Env) (P:Program) (w:World) (H:Hp) (s:Shared) (Q:VK) (u:Value) (s':Shared):Prop:=
 ∃ v H',s'.os=s.os/\AllBare s'.gens/\Un (frs outer) [] H H' s.heap s'.heap/\HOk P w H' s'.heap/\RelV v u/\Q v H'
noncomputable def CR (CX:CXT) (outer:List Env) (P:Program) (w:World) (H:Hp) (s:Shared) (Q:VK) (E:XK) (r:Result) (s':Shared):Prop:=
 match r with
 | .ok (.ret u)=>CE outer P w H s Q u s'
 | .ok _=>False
 | .error e=>CX outer H s E e s'
structure aY (P:Program) (w:World) (K:af) (mg:Str->Option Value) (base:Heap) (CX:CXT) (k:Nat) (f:Addr) (fd:c5) (ps:List Str) (sp:Sp):Prop where
 len:∀ vs H Q E,sp vs H Q E->vs.length=ps.length
 run:∀ (A:Around) (outer:List Env) (s:Shared) (H:Hp) (args:Args) (us:List Value) (vs:List V) (Q:VK) (E:XK),fQ k A->DS P w K mg base A outer s H->BindsTo s fd args (ps.zip us)->aN vs us->sp vs H Q E->
  codeAny (model P w) A (.call (.ref f) args) (CR CX outer P w H s Q E) s
theorem aY.imp {P:Program} {w:World} {K:af} {mg:Str->Option Value} {base:Heap} {CX:CXT} {k:Nat} {f:Addr} {fd:c5} {ps:List Str} {sp sp':Sp} (F:aY P w K mg base CX k f fd ps sp)
  (h:∀ vs H Q E,sp' vs H Q E->sp vs H Q E):aY P w K mg base CX k f fd ps sp':=
 ⟨fun vs H Q E q=>F.len vs H Q E (h _ _ _ _ q),fun A outer s H args us vs Q E hr he hb hv hs=>F.run A outer s H args us vs Q E hr he hb hv (h _ _ _ _ hs)⟩
theorem DS.in1 {P:Program} {w:World} {K:af} {mg:Str->Option Value} {base:Heap} {A:Around} {outer:List Env} {s:Shared} {H:Hp} (e:DS P w K mg base A outer s H):
  DS P w K mg base A.in1 outer s H:=⟨e.frames,e.mod,e.bs,e.bsz,e.funs,e.frf,e.hok,e.bare⟩
section
variable {X:Cx} {pins:List (Addr×Obj)} {σ:St} {H:Hp} {s s':Shared}
theorem Inv.env0 (I:Inv X pins σ H s):DS X.prog X.w X.K X.mg X.base X.A X.stack s H:=
 ⟨I.ok.frames,I.ok.mod,I.bs,c9 I.ok.bsz I.sz,I.stack,I.stkFree,I.hok,I.bare⟩
theorem Inv.after {Q:VK} {u:Value} (I:Inv X pins σ H s) (h:CE X.stack X.prog X.w H s Q u s'):EP X pins σ Q u s':=by
 obtain ⟨v,H',os,bare,un,hok,r,q⟩:=h;obtain ⟨hh,g,d,t,os'⟩:=s';obtain rfl:os'=s.os:=os;exact ⟨v,H',I.call (h':=hh) (g':=g) (d':=d) (t':=t) (ch:=[]) un hok bare (fun b z=>absurd z (by simp)),r,q⟩
end
noncomputable def Pc (sp:Sp) (dvs:List V) (E:XK) (t:TA):TE:=fun σ H Q=>t σ H fun vs H1=>sp (vs++dvs) H1 Q E
noncomputable def Binds (K:af) (fd:c5) (ps:List Str) (ds:List Value):Prop:=
 ∀ (s:Shared) (us:List Value),K.In s.heap->(us++ds).length=ps.length->BindsTo s fd ⟨us,[]⟩ (ps.zip (us++ds))
theorem Binds.all {K:af} {fd:c5} {ps:List Str} (h:∀ us:List Value,us.length=ps.length->bindArgs fd ⟨us,[]⟩=pure (ps.zip us)):Binds K fd ps []:=fun s us _ hl=>by
 rw [lp] at hl ⊢;exact .of_eq (h us hl)
noncomputable def DT (CX:CXT) (X:Cx) (E:XK):Prop:=∀ (pins:List (Addr×Obj)) (σ:St) (H:Hp) (s:Shared) (e:Value) (s':Shared),Inv X pins σ H s->CX X.stack H s E e s'->X.xe e s'
section
variable {X:Cx} {CX:CXT} {k:Nat} {f C:Addr} {fd:c5} {ps:List Str} {sp:Sp} {dvs:List V} {ds:List Value} {E:XK} {x m:Str} {p pos apos:Pos} {e o:Expr} {es:List Expr} {ta:TE} {t:TA}
theorem Qa {pins:List (Addr×Obj)} {σ:St} {H:Hp} {s:Shared} {Q:VK} {us:List Value} {vs:List V} (F:aY X.prog X.w X.K X.mg X.base CX k f fd ps sp) (hr:fQ k X.A) (hb:Binds X.K fd ps ds) (hd:aN dvs ds) (hx:DT CX X E)
  (I:Inv X pins σ H s) (r:aN vs us) (h:sp (vs++dvs) H Q E):wpAny (model X.prog X.w) X.A (call (.ref f) us) (EP X pins σ Q) X.xe s:=by
 have r2:aN (vs++dvs) (us++ds):=r.append hd;have hl:(us++ds).length=ps.length:=by rw [<- r2.length]; exact F.len _ _ _ _ h
 refine wpAny_call (codeAny_mono (F.run X.A X.stack s H ⟨us,[]⟩ (us++ds) (vs++dvs) Q E hr I.env0 (hb s us I.kIn hl) r2 h) fun r s' hq=>?_);cases r with
 | error e=>exact hx pins σ H s e s' I hq
 | ok fl=>
  cases fl with
  | ret u=>exact I.after hq
  | next=>exact f9 hq
  | brk=>exact f9 hq
  | cont=>exact f9 hq
theorem N1 (F:aY X.prog X.w X.K X.mg X.base CX k f fd ps sp) (hr:fQ k X.A) (hg:Gl X x) (hm:X.mg x=some (.ref f)) (hk:bp X.K (.ref f)=true) (hb:Binds X.K fd ps ds) (hd:aN dvs ds) (hx:DT CX X E)
  (ha:PA X (e :: es) t) (hdb:(x == ("__debug__" : Str))=false:=by decide) (he:bz (e :: es) X.env=(false,eval e X.env) :: bz es X.env:=by rfl) (hpl:(backTo pos (bz es X.env)).any (·.1)=false:=by rfl):
  PE X (.Call (.Name x p) (e :: es) [] pos) (Pc sp dvs E t):=by
 intro pins s σ H Q I h;refine ix (sR I hg hm ?_ hdb);refine PySem.W.callWith_K (h₀:=X.base) I.ok.mod.kin hk (thn (ha pos pins s σ H _ I h) fun us s1 ⟨vs,H1,I1,r,q⟩=>⟨I1.kIn,?_⟩) he hpl;exact Qa F hr hb hd hx I1 r q
structure Mk (K:af) (C f:Addr):Prop where
 makes:PySem.W.makesIn K C=true
 init:kr K (.ref C) "__init__" = some (some (.ref f))
 fn:PySem.W.isFn K (.ref f)=true
 kp:bp K (.ref C)=true
end
section
variable {X:Cx} {CX:CXT} {k:Nat} {f C:Addr} {fd:c5} {ps ks:List Str} {sp:Sp} {E:XK} {x m:Str} {p pos apos kpos:Pos} {e o:Expr} {es:List Expr} {kws:List Keyword} {te ta:TE} {t tk:TA} {nm:Option Str}
structure UL (K:af) (fd:c5) (ps ks:List Str) (g:List Value->List Value->List Value) (gV:List V->List V->List V):Prop where
 to:∀ (s:Shared) (us ws:List Value),K.In s.heap->(g us ws).length=ps.length->BindsTo s fd ⟨us,ks.zip ws⟩ (ps.zip (g us ws))
 rel:∀ {vs:List V} {us:List Value} {zs:List V} {ws:List Value},aN vs us->aN zs ws->aN (gV vs zs) (g us ws)
variable {g:List Value->List Value->List Value} {gV:List V->List V->List V}
end
structure aZ (N P:List Str) (sc:Scope):Prop where
 kind:sc.kind=.function
 co:sc.isCoroutine=false
 gen:sc.isGenerator=false
 nd:N.Nodup
 pre:N.take P.length=P
 par:∀ x∈P,sc.names.lookup x=some .local\/sc.names.lookup x=some .cell
 nofree:∀ y∈sc.names,y.2≠.free
theorem xV {kindOf:Str->Option j0} {x:Str}:∀ {binds:List (Str×Value)} {m:Str->Option Value},(∀ v,(x,v)∉binds)->bindL kindOf binds m x=m x
 | [],_,_=>rfl
 | (n,v) :: r,m,h=>by
  unfold bindL;rw [xV fun w hw=>h w (aq _ hw)];split
  ·have:x≠n:=by rintro rfl; exact h v ak
   simp [this]
  ·rfl
theorem xW {kindOf:Str->Option j0} {x:Str}:∀ {binds:List (Str×Value)} {m:Str->Option Value},(∀ v,(x,v)∉binds)->bindC kindOf binds m x=m x
 | [],_,_=>rfl
 | (n,v) :: r,m,h=>by
  unfold bindC;rw [xW fun w hw=>h w (aq _ hw)];split
  ·rfl
  ·have:x≠n:=by rintro rfl; exact h v ak
   simp [this]
theorem xX {kindOf:Str->Option j0} {x:Str} {v:Value}:∀ {P:List Str} {vs:List Value} {i:Nat} {m:Str->Option Value},P.Nodup->P[i]?=some x->vs[i]?=some v->kindOf x=some .local->
  bindL kindOf (P.zip vs) m x=some v
 | [],_,_,_,_,h,_,_=>by simp at h
 | _ :: _,[],_,_,_,_,h,_=>by simp at h
 | p :: P,w :: vs,0,m,nd,h1,h2,hk=>by
  simp at h1 h2; subst h1; subst h2
  show bindL kindOf ((p,w) :: P.zip vs) m p=_
  unfold bindL;rw [xV fun v hv=>(gg.mp nd).1 (List.of_mem_zip hv).1,if_pos hk];simp
 | p :: P,w :: vs,i+1,m,nd,h1,h2,hk=>by
  show bindL kindOf ((p,w) :: P.zip vs) m x=_
  unfold bindL;exact xX (i:=i) (gg.mp nd).2 (by simpa using h1) (by simpa using h2) hk
theorem xY {kindOf:Str->Option j0} {x:Str} {v:Value}:∀ {P:List Str} {vs:List Value} {i:Nat} {m:Str->Option Value},P.Nodup->P[i]?=some x->vs[i]?=some v->kindOf x≠some .local->
  bindC kindOf (P.zip vs) m x=some v
 | [],_,_,_,_,h,_,_=>by simp at h
 | _ :: _,[],_,_,_,_,h,_=>by simp at h
 | p :: P,w :: vs,0,m,nd,h1,h2,hk=>by
  simp at h1 h2; subst h1; subst h2
  show bindC kindOf ((p,w) :: P.zip vs) m p=_
  unfold bindC;rw [xW fun v hv=>(gg.mp nd).1 (List.of_mem_zip hv).1,if_neg hk];simp
 | p :: P,w :: vs,i+1,m,nd,h1,h2,hk=>by
  show bindC kindOf ((p,w) :: P.zip vs) m x=_
  unfold bindC;exact xY (i:=i) (gg.mp nd).2 (by simpa using h1) (by simpa using h2) hk
noncomputable def start (N:List Str) (vs:List V):St:=vs.map some++c4 (N.length - vs.length) none
noncomputable def DU (CX:CXT) (P:Program) (w:World) (K:af) (mg:Str->Option Value) (base:Heap) (N:List Str) (qual:Str) (scope:Scope) (f:Addr) (cd:Value) (A:Around) (outer:List Env) (s:Shared) (H:Hp) (E:XK):Cx where
 prog:=P
 w:=w
 K:=K
 mg:=mg
 base:=base
 A:=A.deeper (envOfC qual scope s.heap.objs.size f cd)
 N:=N
 s₀:=s
 H₀:=H
 env:=envOfC qual scope s.heap.objs.size f cd
 outer:=outer
 stack:=envOfC qual scope s.heap.objs.size f cd :: outer
 ex:=[]
 calm:=true
 fn:=fun _=>true
 pn:=[]
 xe:=fun e s'=>wpAny (model P w) (A.deeper (envOfC qual scope s.heap.objs.size f cd)) (leaving (envOfC qual scope s.heap.objs.size f cd) e) (fun _ s''=>CX outer H s E e s'') (fun e' s''=>CX outer H s E e' s'') s'
theorem BM {sc:Scope} {n:Nat} {x:Str} (h:sc.names.lookup x=some .cell):∃ c,(d0 n sc.names []).lookup x=some c:=by
 have q:=PySem.W.cellsFrom_some sc.names n [] (.inl h);exact Option.isSome_iff_exists.mp q
theorem GT {CX:CXT} {P:Program} {w:World} {K:af} {mg:Str->Option Value} {base:Heap} {N ps:List Str} {qual:Str} {scope:Scope} {f:Addr} {cd:Value} {A:Around} {outer:List Env} {s s1:Shared} {H:Hp} {E:XK} {us:List Value} {vs:List V}
  (S:aZ N ps scope) (hd:A.handled=none) (e0:DS P w K mg base A outer s H) (hl:vs.length=ps.length) (r:aN vs us)
  (x:InCallC s s.heap.objs.size (bindL (envOfC qual scope s.heap.objs.size f cd).kindOf (ps.zip us) fun _=>none) (d0 (s.heap.objs.size+1) scope.names []) (bindC (envOfC qual scope s.heap.objs.size f cd).kindOf (ps.zip us) fun _=>none) s1):
  Inv (DU CX P w K mg base N qual scope f cd A outer s H E) [] (start N vs) H s1:=by
 have hpl:ps.length<=N.length:=by have:=congrArg List.length S.pre; rw [d9] at this; omega
 obtain ⟨h1,tk,rfl,hk⟩:=x.done;have noA:∀ b:Addr,b∉(DU CX P w K mg base N qual scope f cd A outer s H E).ex:=fun b z=>absurd (show b∈([]:List Addr) from z) (by simp)
 refine ⟨⟨e0.mod,S.kind,rfl,rfl,ai _,fun y z c h1 h2=>?_,fun y hy=>?_,fun y c _ h=>?_,fun _=>hd,Around.frames_deeper e0.frames,.inr ⟨rfl,rfl⟩,fun b z=>absurd z (noA b),e0.bs,e0.bsz,fun b _ _=>noA b,fun b z=>absurd z (noA b),e0.funs,e0.frf⟩,
  rfl,e0.bare,Un.kept hk,⟨_,x.toInCall.ns,fun i y v h1 h2 h3=>?_⟩,fun y c h=>⟨_,x.cell y c h⟩,e0.hok.fresh (ai _),fun y c h=>?_,fun p hp=>absurd (show p∈([]:List (Addr×Obj)) from hp) (by simp),e0.hok.kept hk,?_⟩
 ·exact name_of_addr x.apart (jm h1) (jm h2)
 ·have hy:scope.names.lookup y=some .cell\/scope.names.lookup y=some .free:=hy;rcases hy with hy | hy
  ·exact BM hy
  ·exact absurd rfl (S.nofree _ (jm hy))
 ·exact iw (x.above y c (jm h))
 ·have hi:i < vs.length:=by
   unfold start at h2
   by_cases hi:i < vs.length
   ·exact hi
   ·rw [e9 (by simpa using hi)] at h2
    rw [List.getElem?_replicate] at h2;split at h2 <;> cases h2
  have ha:vs[i]?=some v:=by
   unfold start at h2;rw [dh (by simpa using hi),aj] at h2
   cases e:vs[i]? with
   | none=>rw [e] at h2; cases h2
   | some a=>rw [e] at h2; cases h2; rfl
  obtain ⟨u,hu,rv⟩:=r.get ha;have hp:ps[i]?=some y:=by
   rw [<- S.pre,List.getElem?_take_of_lt (by omega)]; exact h1
  have ndP:ps.Nodup:=by rw [<- S.pre]; exact S.nd.sublist (List.take_sublist _ _)
  refine ⟨u,rv,?_⟩;rcases S.par y (cy hp) with k | k
  ·exact .inl ⟨k,xX ndP hp hu k⟩
  ·obtain ⟨c,e⟩:=BM (n:=s.heap.objs.size+1) k;refine .inr ⟨.inl k,c,e,?_⟩;have q:=x.cell y c e;rw [xY ndP hp hu (by show scope.names.lookup y≠_; rw [k]; decide)] at q;exact q
 ·exact e0.hok.fresh (iw (x.above y c (jm h)))
 ·unfold start
  show _=N.length
  rw [c8,ae,List.length_replicate];omega
theorem Se {CX:CXT} {P:Program} {w:World} {K:af} {mg:Str->Option Value} {base:Heap} {k:Nat} {f:Addr} {name qual:Str} {params:Arguments} {body:List Stmt} {scope:Scope} {dV kV doc pm cdv ct oc:Value} {an od:Option Addr}
  {osl:Array (Option Value)} {N ps:List Str} {sp:Sp} (lk:K.lookup f=some ⟨oc,od,.func (b9 name qual params body scope dV kV doc pm an cdv ct),osl⟩) (hcd:cb K cdv qual=true) (S:aZ N ps scope)
  (len:∀ vs H Q E,sp vs H Q E->vs.length=ps.length)
  (hbody:∀ (A:Around) (outer:List Env) (s:Shared) (H:Hp) (vs:List V) (Q:VK) (E:XK),fQ k (A.deeper (envOfC qual scope s.heap.objs.size f cdv))->sp vs H Q E->
   ∃ t,PSs (DU CX P w K mg base N qual scope f cdv A outer s H E) body t/\t { nx:=fun _ H'=>Q .non H',rt:=Q } (start N vs) H):
  aY P w K mg base CX (k+1) f (b9 name qual params body scope dV kV doc pm an cdv ct) ps sp:=by
 refine ⟨len,fun A outer s H args us vs Q E hr e0 hb r hsp=>?_⟩;have hl:=len _ _ _ _ hsp;have KX:K.In s.heap:=e0.mod.kin.keeps fun b o e=>(e0.bs b o e).1;have lim:s.heap.NoLimit:=e0.mod.nolimit.keeps fun b o e=>(e0.bs b o e).1;have hkind:∀ y∈ps.zip us,scope.names.lookup y.1=some .local\/(scope.names.lookup y.1=some .cell/\((d0 (s.heap.objs.size+1) scope.names []).lookup y.1).isSome=true):=fun ⟨n,v⟩ hy=>by
  rcases S.par n (List.of_mem_zip hy).1 with q | q
  ·exact .inl q
  ·exact .inr ⟨q,PySem.W.cellsFrom_some _ _ _ (.inl q)⟩
 refine codeAny_call_function hr.depth (KX _ _ lk) rfl S.co S.gen rfl (PySem.W.codeRec_of KX hcd) (hb _ _ _ _ ?_);refine wpAny_newFunctionEnv_cells S.kind hkind fun env he s1 x=>?_;subst he;refine ⟨lim.keeps x.toInCall.keep,codeAny_func ?_⟩;obtain ⟨t,ht,hq⟩:=hbody A outer s H vs Q E (hr.deeper _) hsp;have I:Inv (DU CX P w K mg base N qual scope f cdv A outer s H E) [] (start N vs) H s1:=GT S hr.hd e0 hl r x;refine f7 (ht [] s1 (start N vs) H _ I hq) (fun fl s' hs=>?_) fun e s' hs=>hs;have fin:∀ {σ':St} {H':Hp} {v:V} {u:Value},Inv (DU CX P w K mg base N qual scope f cdv A outer s H E) [] σ' H' s'->RelV v u->Q v H'->CE outer P w H s Q u s':=
  fun {σ' H' v u} J rv q=>⟨v,H',J.os,J.bare,J.base,J.hok,rv,q⟩
 cases fl with
 | ret u=>
  obtain ⟨v,σ',H',J,rv,q⟩:=hs;exact fin J rv q
 | next=>
  obtain ⟨σ',H',J,q⟩:=hs;exact fin (v:=V.non) (u:=cq) J rfl q
 | brk=>
  obtain ⟨_,_,_,q⟩:=hs;exact f9 q
 | cont=>
  obtain ⟨_,_,_,q⟩:=hs;exact f9 q
section
variable {X:Cx} {x:Str} {p pos:Pos} {e:Expr} {es:List Expr} {t:TA} {id T:String} {r:List V->Hp->VK->Prop}
noncomputable def tCB (r:List V->Hp->VK->Prop) (t:TA):TE:=fun σ H Q=>t σ H fun vs H1=>r vs H1 Q
theorem Jx (hc:bT X (.builtin id) r) (hg:Gl X x) (hm:X.mg x=none) (hv:k9 x=some (.builtin id)) (ha:PA X (e :: es) t) (hn:x≠"__name__" := by decide) (hdb:(x == ("__debug__" : Str))=false:=by decide)
  (he:bz (e :: es) X.env=(false,eval e X.env) :: bz es X.env:=by rfl) (hpl:(backTo pos (bz es X.env)).any (·.1)=false:=by rfl):PE X (.Call (.Name x p) (e :: es) [] pos) (tCB r t):=by
 intro pins s σ H Q I h;refine ix (pL I hg hm hv ?_ hn hdb);exact PyProof.Rows.callWith_builtin1 (thn (ha pos pins s σ H _ I h) fun us s1 ⟨vs,H1,I1,r1,q1⟩=>hc pins s1 σ H1 vs us Q I1 r1 q1) he hpl
theorem GU (hc:bT X (.type T) r) (hg:Gl X x) (hm:X.mg x=none) (hv:k9 x=some (.type T)) (ha:PA X (e :: es) t) (hn:x≠"__name__" := by decide) (hdb:(x == ("__debug__" : Str))=false:=by decide)
  (he:bz (e :: es) X.env=(false,eval e X.env) :: bz es X.env:=by rfl) (hpl:(backTo pos (bz es X.env)).any (·.1)=false:=by rfl):PE X (.Call (.Name x p) (e :: es) [] pos) (tCB r t):=by
 intro pins s σ H Q I h;refine ix (pL I hg hm hv ?_ hn hdb);exact PyProof.Rows.callWith_type1 (thn (ha pos pins s σ H _ I h) fun us s1 ⟨vs,H1,I1,r1,q1⟩=>hc pins s1 σ H1 vs us Q I1 r1 q1) he hpl
end
end L2
namespace HT
open PySem PyProof.Rows
section
variable {prog:Program} {w:World} {A:Around} {E:Value->Shared->Prop} {s:Shared}
theorem cat_tup {t b:Addr} {vs ws:List Value} {Q:Value->Shared->Prop} (ht:IsTup s.heap t vs.toArray) (hb:IsTup s.heap b ws.toArray) (hv:vs≠[])
  (h1:ws=[]->Q (.ref t) s) (h2:ws≠[]->Q (.ref s.heap.objs.size) { s with heap:=s.heap.push { cls:=.type "tuple",data:=.seq (vs++ws).toArray } })
  (hsz:vs.length+ws.length<=au):wpAny (model prog w) A (fe .Add (.ref t) (.ref b)) Q E s:=by
 obtain ⟨⟨cls,dd,data,sl⟩,ho,hc,n,hd⟩:=id ht;obtain ⟨⟨cls2,dd2,data2,sl2⟩,ho2,hc2,n2,hd2⟩:=id hb;simp only at hc hd hc2 hd2;subst hc hd hc2 hd2;have e:vs.toArray++ws.toArray=(vs++ws).toArray:=by simp
 by_cases hw:ws=[]
 ·exact concat_meets ⟨_,ho,rfl⟩ ⟨_,ho2,rfl⟩ noFill_tuple_add seq_tuple_add PySem.F.slot_tuple_add PySem.F.entry_tuple_add (PySem.F.args_tuple_add_2 _ _)
   (tuple_addW1 t b vs.toArray ws.toArray n n2 dd dd2 sl sl2 (by simpa using hv) (by simp [hw])) ⟨ho,ho2,h1 hw⟩
 ·refine concat_meets ⟨_,ho,rfl⟩ ⟨_,ho2,rfl⟩ noFill_tuple_add seq_tuple_add PySem.F.slot_tuple_add PySem.F.entry_tuple_add (PySem.F.args_tuple_add_2 _ _)
   (tuple_addW2 t b vs.toArray ws.toArray n n2 dd dd2 sl sl2 (by simpa using hv) (by simpa using hw) (by rw [ar,ar]; exact hsz)) ⟨ho,ho2,?_⟩
  rw [e];exact h2 hw
noncomputable def sIx (n d:Nat):Option Int->Nat
 | none=>d
 | some v=>if v < 0 then (v+(n:Int)).toNat else min v.toNat n
theorem Ae (n d k:Nat):sIx n d (some (k:Int))=min k n:=by
 show (if (k:Int) < 0 then ((k:Int)+(n:Int)).toNat else min (k:Int).toNat n)=min k n
 rw [if_neg (by omega),ic]
theorem Qb (n d:Nat) (hd:d<=n) (o:Option Int):sIx n d o<=n:=by
 cases o with
 | none=>exact hd
 | some v=>
  show (if v < 0 then (v+(n:Int)).toNat else min v.toNat n)<=n
  by_cases hv:v < 0
  ·rw [if_pos hv]; omega
  ·rw [if_neg hv]; exact Nat.min_le_right _ _
theorem FW (v:Int) (n d:Nat):(if v < 0 then max (v+(n:Int)) 0 else min v (n:Int))=((sIx n d (some v):Nat):Int):=by
 show (if v < 0 then max (v+(n:Int)) 0 else min v (n:Int))=(((if v < 0 then (v+(n:Int)).toNat else min v.toNat n):Nat):Int)
 by_cases hv:v < 0
 ·simp only [if_pos hv]; omega
 ·simp only [if_neg hv]; omega
theorem DV (lo hi:Option Int) (n:Nat):ku lo hi 1 (n:Int)=(((sIx n 0 lo:Nat):Int),((sIx n n hi:Nat):Int)):=by
 have h1:¬ ((1:Int) < 0):=by omega
 unfold ku;simp only [h1,if_false];refine Prod.ext ?_ ?_
 ·cases lo with
  | none=>rfl
  | some v=>exact FW v n 0
 ·cases hi with
  | none=>rfl
  | some v=>exact FW v n n
theorem DW (i j:Nat):i9 (i:Int) (j:Int) 1=j - i:=by
 unfold i9;have h1:(1:Int) > 0:=by omega
 simp only [h1,if_true,Int.ediv_one];split <;> omega
theorem tJ {v:Value} {o:Option Int} {Q:Option Int->Shared->Prop} (p:IsPart v o) (h:Q o s):wpAny (model prog w) A (Builtin.Slice.slicePartIndex v) Q E s:=by
 cases p with
 | none=>exact slicePart_none h
 | int i t=>exact slicePart_int h
theorem sliceApplied_gen {sl:Addr} {vl vu:Value} {lo hi:Option Int} {n:Nat} {Q:Int×Int×Nat->Shared->Prop} (hs:s.heap.IsSliceOf sl vl vu .none) (pl:IsPart vl lo) (pu:IsPart vu hi)
  (h:Q (((sIx n 0 lo:Nat):Int),1,sIx n n hi - sIx n 0 lo) s):wpAny (model prog w) A (Builtin.Slice.sliceApplied (.ref sl) (pure (n:Int))) Q E s:=by
 obtain ⟨os,hos,hcs,hds⟩:=id hs;unfold Builtin.Slice.sliceApplied Builtin.Slice.sliceFields;refine aa (aa (wpAny_field hos hds (x:=vl) rfl (aa (wpAny_field hos hds (x:=vu) rfl (aa (wpAny_field hos hds (x:=.none) rfl (ag ?_)))))));refine aa (slicePart_none ?_)
 show wpAny _ _ (if ((1:Int) == 0)=true then _ else _) _ _ s
 rw [if_neg (by decide)];refine aa (tJ pl (aa (tJ pu (aa (ag ?_)))))
 show wpAny _ _ (match ku lo hi 1 (n:Int) with | (lo,hi)=>pure (lo,(1:Int),i9 lo hi 1)) _ _ s
 rw [DV lo hi n]
 show wpAny _ _ (pure (((sIx n 0 lo:Nat):Int),(1:Int),i9 ((sIx n 0 lo:Nat):Int) ((sIx n n hi:Nat):Int) 1)) _ _ s
 rw [DW];exact ag h
theorem Jy (xs:Array Value) (i k:Nat):((ax k).filterMap fun (m:Nat)=>xs[((i:Int)+(m:Int)*1).toNat]?).toArray=((xs.toList.drop i).take k).toArray:=by
 have e:(fun (m:Nat)=>xs[((i:Int)+(m:Int)*1).toNat]?)=fun m=>xs[i+m]?:=by
  funext m
  have:((i:Int)+(m:Int)*1).toNat=i+m:=by omega
  rw [this]
 rw [e];have:=pick_run xs i k;rw [List.filterMap_map] at this;have e2:((fun x=>xs[x]?) ∘ fun x=>i+x)=fun m=>xs[i+m]?:=rfl;rw [e2] at this;rw [this]
theorem getItem_tuple_cut {t sl:Addr} {items:Array Value} {vl vu:Value} {lo hi:Option Int} {Q:Value->Shared->Prop} (ht:IsTup s.heap t items) (hs:s.heap.IsSliceOf sl vl vu .none) (pl:IsPart vl lo) (pu:IsPart vu hi)
  (hw:¬ (sIx items.size 0 lo=0/\sIx items.size items.size hi=items.size))
  (h:Q (.ref s.heap.objs.size) { s with heap:=s.heap.push { cls:=.type "tuple",data:=.seq ((items.toList.drop (sIx items.size 0 lo)).take (sIx items.size items.size hi - sIx items.size 0 lo)).toArray } })
  (hsz:items.size<=au):wpAny (model prog w) A (getItem (.ref t) (.ref sl)) Q E s:=by
 have htake:sizeOk (.seq ((items.toList.drop (sIx items.size 0 lo)).take (sIx items.size items.size hi - sIx items.size 0 lo)).toArray):=by
  show ((items.toList.drop (sIx items.size 0 lo)).take (sIx items.size items.size hi - sIx items.size 0 lo)).toArray.size<=au
  rw [ar,d9,k0,dt];omega
 have hj:sIx items.size items.size hi<=items.size:=Qb _ _ (ai _) hi;obtain ⟨os,hos,hcs,hds⟩:=id hs;have hTs:s.TypeIs (.ref sl) "slice" := ⟨os,hos,hcs⟩;unfold getItem
 try with_reducible refine da ?_
 first | refine aa (ag ?_) | skip
 refine aa (wpAny_sequenceKey ht.typeIs (by decide) ?_);refine aa (jo (name:=jk "__getitem__") ht.typeIs dn
  (ir dn ht.typeIs entry_tuple_getitem ?_ (args_tuple_getitem _ _)))
 show wpAny _ _ (kn (.ref t) >>= _) _ _ s
 refine aa (tupleItemsOf_ ht ?_);refine aa (lg hTs ?_);rw [if_pos (by decide)];refine aa (sliceApplied_gen hs pl pu ?_);have hno:¬ ((((sIx items.size 0 lo:Nat):Int) == 0 && (1:Int) == 1 && (sIx items.size items.size hi - sIx items.size 0 lo) == items.size)=true):=by
  intro q;rw [cm,cm] at q;have q1:((sIx items.size 0 lo:Nat):Int)=0:=eq_of_beq q.1.1;have q2:sIx items.size items.size hi - sIx items.size 0 lo=items.size:=eq_of_beq q.2;exact hw ⟨by omega,by omega⟩
 show wpAny _ _ (if (((sIx items.size 0 lo:Nat):Int) == 0 && (1:Int) == 1 && (sIx items.size items.size hi - sIx items.size 0 lo) == items.size)=true then _ else _) _ _ s
 rw [if_neg hno,Jy]
 first
  | exact aa (m:=je _) (fm (ag ⟨_,rfl,ag h⟩) htake)
  | exact aa (m:=je _) (fm (aa (ag (ag ⟨_,rfl,ag h⟩))) htake)
  | exact aa (aa (m:=je _) (fm (ag (ag ⟨_,rfl,ag h⟩)) htake))
  | exact aa (aa (m:=je _) (fm (ag ⟨_,rfl,ag h⟩) htake))
end
end HT
namespace L2
open PySem PySem.Spec PyProof.Rows
noncomputable abbrev TO:=St->Hp->(Option Int->Hp->Prop)->Prop
noncomputable def PO (X:Cx) (e:Option Expr) (t:TO):Prop:=
 ∀ (pins:List (Addr×Obj)) (s:Shared) (σ:St) (H:Hp) (Q:Option Int->Hp->Prop),Inv X pins σ H s->t σ H Q->
  wpAny (model X.prog X.w) X.A (evalPart e X.env) (fun u s'=>∃ o H',Inv X pins σ H' s'/\IsPart u o/\Q o H') X.xe s
noncomputable def N2:TO:=fun _ H Q=>Q none H
theorem intsAre_of {ns:List Int}:∀ {us:List Value},aN (ns.map V.int) us->IntsAre us ns:=by
 induction ns with
 | nil=>intro us r; rw [List.map_nil] at r; cases r; exact .nil
 | cons n ns ih=>
  intro us r;rw [a7] at r;cases r with
  | cons r1 r2=>
   obtain ⟨t,e⟩:=r1;subst e;exact .cons n t (ih r2)
section
variable {X:Cx} {e:Expr} {te:TE} {lo hi:Option Expr} {tl th:TO} {pos p2:Pos}
theorem N3:PO X none N2:=by
 intro pins s σ H Q I h;rw [evalPart_none];exact ag ⟨none,H,I,.none,h⟩
noncomputable def SlR (X:Cx) (r:V->Option Int->Option Int->Hp->VK->Prop):Prop:=
 ∀ (pins:List (Addr×Obj)) (s:Shared) (σ:St) (H:Hp) (x:V) (v vl vu:Value) (lo hi:Option Int) (sl:Addr) (Q:VK),Inv X pins σ H s->RelV x v->s.heap.IsSliceOf sl vl vu .none->IsPart vl lo->IsPart vu hi->r x lo hi H Q->
  ∃ T id,typeLookup (.type T) "__getitem__" = pure (some (.builtin id))/\s.TypeIs v T/\wpAny (model X.prog X.w) X.A (getItem v (.ref sl)) (EP X pins σ Q) X.xe s
theorem SlR.or {r r':V->Option Int->Option Int->Hp->VK->Prop} (h:SlR X r) (h':SlR X r'):SlR X (fun x lo hi H Q=>r x lo hi H Q\/r' x lo hi H Q):=by
 intro pins s σ H x v vl vu lo hi sl Q I rx hs pl pu q;rcases q with q | q
 ·exact h pins s σ H x v vl vu lo hi sl Q I rx hs pl pu q
 ·exact h' pins s σ H x v vl vu lo hi sl Q I rx hs pl pu q
noncomputable def tSl (r:V->Option Int->Option Int->Hp->VK->Prop) (te:TE) (tl th:TO):TE:=fun σ H Q=>te σ H fun x H1=>tl σ H1 fun l H2=>th σ H2 fun u H3=>r x l u H3 Q
theorem Jz {r:V->Option Int->Option Int->Hp->VK->Prop} (hr:SlR X r) (he:PE X e te) (hl:PO X lo tl) (hu:PO X hi th):PE X (.Subscript e (.Slice lo hi none p2) pos) (tSl r te tl th):=by
 intro pins s σ H Q I h;refine Subscript_ (thn (he pins s σ H _ I h) fun v s1 hz=>?_);obtain ⟨x,H1,I1,r1,q1⟩:=hz;refine wpAny_Slice (thn (hl pins s1 σ H1 _ I1 q1) fun vl s2 ⟨l,H2,I2,pl,q2⟩=>thn (hu pins s2 σ H2 _ I2 q2) fun vu s3 hz=>?_);obtain ⟨u,H3,I3,pu,q3⟩:=hz;rw [evalPart_none];refine ag ?_;have I4:Inv X pins σ H3 { s3 with heap:=s3.heap.push { cls:=.type "slice",data:=.fields #[vl,vu,.none] } }:=I3.kept (t':=s3.toks) fun b ob q=>ah _ q;obtain ⟨T,id,hT,ht,hg⟩:=hr pins { s3 with heap:=s3.heap.push { cls:=.type "slice",data:=.fields #[vl,vu,.none] } } σ H3 x v vl vu l u s3.heap.objs.size Q I4 r1 (Heap.IsSliceOf.new ..) pl pu q3
 show wpAny (model X.prog X.w) X.A (subscriptTail e (.Slice lo hi none p2) v (.ref s3.heap.objs.size)) (EP X pins σ Q) X.xe { s3 with heap:=s3.heap.push { cls:=.type "slice",data:=.fields #[vl,vu,.none] } }
 exact tail_any (ops:=[.ref s3.heap.objs.size,v]) ht hT hg (by with_unfolding_all rfl)
noncomputable def BN (xs:List V) (lo hi:Option Int):List V:=(xs.drop (HT.sIx xs.length 0 lo)).take (HT.sIx xs.length xs.length hi - HT.sIx xs.length 0 lo)
theorem rF (xs:List V) (lo hi:Option Int):(BN xs lo hi).length<=xs.length:=by
 unfold BN;rw [d9,k0];omega
noncomputable def Sf (K:af):V->Option Int->Option Int->Hp->VK->Prop:=fun x lo hi H Q=>∃ a xs,x=.ref a/\SqT K H a xs/\
 ¬ (HT.sIx xs.length 0 lo=0/\HT.sIx xs.length xs.length hi=xs.length)/\∀ p,H p=none->Q (.ref p) (upd H p (.tup (BN xs lo hi)))
theorem Qc:SlR X (Sf X.K):=by
 intro pins s σ H x v vl vu lo hi sl Q I rx hs pl pu h;obtain ⟨a,xs,rfl,hx,hw,q⟩:=h;cases rx
 obtain ⟨its,r,ht,hz⟩:=I.tuple hx;have hlen:its.toArray.size=xs.length:=by rw [ar]; exact r.length.symm
 refine ⟨"tuple",_,dn.lookup,ht.typeIs,?_⟩;refine HT.getItem_tuple_cut ht hs pl pu (by rw [hlen]; exact hw) ?_ (by rw [hlen]; exact hz);rw [hlen];refine ⟨.ref s.heap.objs.size,_,I.laid (t':=s.toks) (o:=.tup (BN xs lo hi)) (fun b ob q=>ah _ q) (ai _) ?_,rfl,q _ (I.hok.fresh (ai _))⟩;exact ⟨c9 (rF xs lo hi) hz,_,(r.drop (HT.sIx xs.length 0 lo)).take (HT.sIx xs.length xs.length hi - HT.sIx xs.length 0 lo),nB.new _ _⟩
noncomputable def Pd (K:af):R2:=fun x y H Q=>∃ a b xs ys,x=.ref a/\y=.ref b/\SqT K H a xs/\SqT K H b ys/\xs≠[]/\xs.length+ys.length<=au/\
 (ys=[]->Q (.ref a) H)/\(ys≠[]->∀ p,H p=none->Q (.ref p) (upd H p (.tup (xs++ys))))
theorem aN.nil_iff {xs:List V} {us:List Value} (r:aN xs us):us=[] ↔ xs=[]:=by
 cases r with
 | nil=>simp
 | cons _ _=>simp
theorem N4:OpR X (fe .Add) (Pd X.K):=by
 intro pins s σ H x y v u Q I rx ry h;obtain ⟨a,b,xs,ys,rfl,rfl,ha,hb,hx,hz,q1,q2⟩:=h;cases rx
 cases ry
 obtain ⟨its,r1,p1,_⟩:=I.tuple ha;obtain ⟨its2,r2,p2,_⟩:=I.tuple hb;refine HT.cat_tup p1 p2 (fun z=>hx (r1.nil_iff.mp z)) (fun z=>⟨.ref a,H,I,rfl,q1 (r2.nil_iff.mp z)⟩) (fun z=>?_) (by rw [<- r1.length,<- r2.length]; exact hz);refine ⟨.ref s.heap.objs.size,_,I.laid (t':=s.toks) (o:=.tup (xs++ys)) (fun b ob q=>ah _ q) (ai _) ?_,rfl,q2 (fun w=>z (r2.nil_iff.mpr w)) _ (I.hok.fresh (ai _))⟩;exact ⟨by rw [c8]; exact hz,_,r1.append r2,nB.new _ _⟩
end
noncomputable def ixN (n:Nat) (i:Int):Option Nat:=if 0<=i then (if i < n then some i.toNat else none) else if -(n:Int)<=i then some (i+n).toNat else none
noncomputable def atI {α:Type} (xs:List α) (i:Int):Option α:=(ixN xs.length i).bind fun j=>xs[j]?
theorem FX {n:Nat} {i:Int} {j:Nat} (h:ixN n i=some j):seqIndex? i n=some j/\j < n/\-(n:Int)<=i/\i < n:=by
 unfold ixN at h
 by_cases h0:0<=i
 ·rw [if_pos h0] at h
  by_cases h1:i < n
  ·rw [if_pos h1] at h;have e:i.toNat=j:=bg h;exact ⟨by rw [seqIndex_of h0 h1,e],by omega,by omega,h1⟩
  ·rw [if_neg h1] at h; cases h
 ·rw [if_neg h0] at h
  by_cases h1:-(n:Int)<=i
  ·rw [if_pos h1] at h;have e:(i+n).toNat=j:=bg h;exact ⟨by rw [seqIndex_neg (by omega) h1,e],by omega,h1,by omega⟩
  ·rw [if_neg h1] at h; cases h
theorem Af {α:Type} {xs:List α} {i:Int} {v:α} (h:atI xs i=some v):∃ j,seqIndex? i xs.length=some j/\xs[j]?=some v/\j < xs.length/\-(xs.length:Int)<=i/\i < xs.length:=by
 unfold atI at h;cases e:ixN xs.length i with
 | none=>rw [e] at h; cases h
 | some j=>
  rw [e] at h;obtain ⟨h1,h2,h3,h4⟩:=FX e;exact ⟨j,h1,h,h2,h3,h4⟩
noncomputable def FY (b:Expr):Prop:=∀ o i,subscripted b false o i=operate [o,i] (getItem o i)
noncomputable def IxR (X:Cx) (r:R2):Prop:=
 ∀ (value slice:Expr) (pins:List (Addr×Obj)) (s:Shared) (σ:St) (H:Hp) (x y:V) (v u:Value) (Q:VK),Inv X pins σ H s->RelV x v->RelV y u->r x y H Q->
  subscripted slice false v u=operate [v,u] (getItem v u)->wpAny (model X.prog X.w) X.A (subscriptTail value slice v u) (EP X pins σ Q) X.xe s
noncomputable def MtR (X:Cx) (id:String) (r:V->List V->Hp->VK->Prop):Prop:=
 ∀ (pins:List (Addr×Obj)) (s:Shared) (σ:St) (H:Hp) (x:V) (xs:List V) (v:Value) (us:List Value) (Q:VK),Inv X pins σ H s->RelV x v->aN xs us->r x xs H Q->
  wpAny (model X.prog X.w) X.A (call (.builtin id) (v :: us)) (EP X pins σ Q) X.xe s
section
variable {X:Cx} {a b:Expr} {ta tb:TE} {pos:Pos}
theorem IxR.or {r r':R2} (h:IxR X r) (h':IxR X r'):IxR X (fun x y H Q=>r x y H Q\/r' x y H Q):=by
 intro value slice pins s σ H x y v u Q I rx ry q hs;rcases q with q | q
 ·exact h value slice pins s σ H x y v u Q I rx ry q hs
 ·exact h' value slice pins s σ H x y v u Q I rx ry q hs
theorem Sg {r:R2} (hr:IxR X r) (ha:PE X a ta) (hb:PE X b tb) (hs:FY b):PE X (.Subscript a b pos) (tOp r ta tb):=by
 intro pins s σ H Q I h;exact Subscript_ (PQ ha hb I h fun v u s2 x y H2 I2 rx ry q=>hr a b pins s2 σ H2 x y v u Q I2 rx ry q (hs _ _))
noncomputable def UM (K:af):R2:=fun x y H Q=>∃ p xs i v,x=.ref p/\y=.int i/\SqL K H p xs/\atI xs i=some v/\Q v H
noncomputable def UN (K:af):R2:=fun x y H Q=>∃ p xs i v,x=.ref p/\y=.int i/\SqT K H p xs/\atI xs i=some v/\Q v H
noncomputable def UO:R2:=fun x y H Q=>∃ z i c,x=.str z/\y=.int i/\z.length<=au/\atI z.cps.toList i=some c/\Q (.str ⟨#[c]⟩) H
theorem N5:IxR X (UM X.K):=by
 intro value slice pins s σ H x y v u Q I rx ry h hs;obtain ⟨p,xs,i,z,rfl,rfl,hq,he,q⟩:=h;cases rx
 obtain ⟨t,rfl⟩:=ry;obtain ⟨its,r,pl,hz⟩:=I.list hq;obtain ⟨j,h1,h2,h3,h4,h5⟩:=Af he;obtain ⟨w,ew,rw'⟩:=r.get h2;have hl:=r.length;have hn:=lW;have fin:EP X pins σ Q w s:=⟨z,H,I,rw',q⟩
 by_cases h0:0<=i
 ·have hj:i.toNat=j:=by
   rw [seqIndex_of h0 h5] at h1;exact bg h1
  exact item_listR pl.isList h0 (by omega) (by rw [hj]; simpa using ew) fin hs
 ·have hj:(i+(its.toArray.size:Int)).toNat=j:=by
   rw [seqIndex_neg (by omega) h4] at h1;rw [ar,<- hl];exact bg h1
  exact subscriptTail_builtinR (x:=w) pl.isList.typeIs slot_list_getitem.lookup
   (wpAny_getItem_list_neg (Q:=fun r s'=>r=w/\EP X pins σ Q r s') pl.isList (by omega) (by rw [ar] <;> omega) (by omega) (by rw [hj]; simpa using ew) ⟨rfl,fin⟩) hs
theorem Qd:IxR X (UN X.K):=by
 intro value slice pins s σ H x y v u Q I rx ry h hs;obtain ⟨p,xs,i,z,rfl,rfl,hq,he,q⟩:=h;cases rx
 obtain ⟨t,rfl⟩:=ry;obtain ⟨its,r,pl,hz⟩:=I.tuple hq;obtain ⟨j,h1,h2,h3,h4,h5⟩:=Af he;obtain ⟨w,ew,rw'⟩:=r.get h2;have hl:=r.length;have hn:=lW;have fin:EP X pins σ Q w s:=⟨z,H,I,rw',q⟩;exact subscriptTail_builtinR (x:=w) pl.typeIs slot_tuple_getitem.lookup
  (getItem_tuple (j:=j) (Q:=fun r s'=>r=w/\EP X pins σ Q r s') pl (by omega) (by omega) (by rw [ar,<- hl]; exact h1) (by simpa using ew) ⟨rfl,fin⟩) hs
theorem Qe:IxR X UO:=by
 intro value slice pins s σ H x y v u Q I rx ry h hs;obtain ⟨z,i,c,rfl,rfl,hz,he,q⟩:=h;obtain ⟨t,rfl⟩:=rx;obtain ⟨t',rfl⟩:=ry;obtain ⟨j,h1,h2,h3,h4,h5⟩:=Af he;have hl:z.cps.toList.length=z.length:=by simp [Str.length]
 rw [hl] at h1 h4 h5;have hn:=lW;exact tail_any (typeIs_str s z t) slot_str_getitem.lookup (getItem_str (c:=c) (by
  have e1:decide (i < -(2 ^ 63:Int))=false:=decide_eq_false (by omega);have e2:decide (i >= 2 ^ 63)=false:=decide_eq_false (by omega);rw [e1,e2,Bool.or_false]) (by rw [h1]; simpa using h2) ⟨.str ⟨#[c]⟩,H,I.tok _,⟨_,rfl⟩,q⟩) hs
theorem DX (its:List Value) (n j:Nat) (u:Value):cu (·.setIfInBounds j u) { cls:=.type "list",data:=.seq its.toArray n }={ cls:=.type "list",data:=.seq (its.set j u).toArray n }:=by
 simp [cu]
theorem Inv.lst {pins:List (Addr×Obj)} {σ:St} {H:Hp} {s:Shared} {p:Addr} {xs:List V} (I:Inv X pins σ H s) (h:H p=some (.lst xs)):
  ∃ (its:List Value) (n:Nat),aN xs its/\s.heap.get? p=some { cls:=.type "list",data:=.seq its.toArray n }/\xs.length<=au:=by
 obtain ⟨z,its,n,r,e⟩:=I.hok p _ h;exact ⟨its,n,r,e,z⟩
theorem Inv.lstUpd {pins:List (Addr×Obj)} {σ:St} {H:Hp} {s:Shared} {p:Addr} {xs ys:List V} {its its':List Value} {n n':Nat} {f:Obj->Obj} (I:Inv X pins σ H s) (h:H p=some (.lst xs))
  (ho:s.heap.get? p=some { cls:=.type "list",data:=.seq its.toArray n }) (hf:f { cls:=.type "list",data:=.seq its.toArray n }={ cls:=.type "list",data:=.seq its'.toArray n' }) (r:aN ys its') (hz:ys.length<=au) (t:Nat):
  Inv X pins σ (upd H p (.lst ys)) { s with heap:=s.heap.update p f,toks:=t }:=by
 have e:(s.heap.update p f).get? p=some { cls:=.type "list",data:=.seq its'.toArray n' }:=by
  rw [j6 f ho (by rw [hf] <;> rfl),hf]
 refine I.write (x:=p) (e:=p) (by rw [h]; trivial) (.inl rfl) (fun b u hb q=>(Heap.get?_update_other _ _ (i8 hb)).trans q) ⟨_,e⟩ ?_;exact ⟨hz,its',n',r,e⟩
noncomputable def Sh:V->V->V->Hp->(Hp->Prop)->Prop:=fun o i v H Q=>∃ p xs k j,o=.ref p/\i=.int k/\H p=some (.lst xs)/\ixN xs.length k=some j/\Q (upd H p (.lst (xs.set j v)))
theorem set_list:UE X Sh:=by
 intro pins s σ H o i v ov iv u Q I ro ri rv h;obtain ⟨p,xs,k,j,rfl,rfl,hp,hj,q⟩:=h;cases ro
 obtain ⟨t,rfl⟩:=ri;obtain ⟨its,n,r,ho,hz⟩:=I.lst hp;obtain ⟨h1,h2,h3,h4⟩:=FX hj;have hl:=r.length;have hn:=lW;have I':Inv X pins σ (upd H p (.lst (xs.set j v))) { s with heap:=s.heap.update p (cu (·.setIfInBounds j u)) }:=
  I.lstUpd hp ho (DX its n j u) (r.set rv j) (by rw [de]; exact hz) s.toks
 by_cases h0:0<=k
 ·have hk:k.toNat=j:=by
   rw [seqIndex_of h0 h4] at h1;exact bg h1
  exact PySem.W.ki_setAt ho h0 (by omega) (by rw [ar,<- hl]; exact h4) (by rw [hk]; exact ⟨_,I',q⟩)
 ·have hk:(k+(its.toArray.size:Int)).toNat=j:=by
   rw [seqIndex_neg (by omega) h3] at h1;rw [ar,<- hl];exact bg h1
  exact PySem.W.ki_setBack ho (by omega) (by rw [ar,<- hl]; exact h3) (by omega) (by rw [hk]; exact ⟨_,I',q⟩)
theorem Ag (lo hi:Option Int) (n:Nat):(sliceBounds lo hi none n).1=((HT.sIx n 0 lo:Nat):Int)/\(sliceBounds lo hi none n).2.1=((HT.sIx n n hi:Nat):Int)/\(sliceBounds lo hi none n).2.2=1:=by
 refine ⟨?_,?_,rfl⟩
 ·cases lo with
  | none=>simp [sliceBounds,HT.sIx]
  | some i=>
   simp only [sliceBounds,HT.sIx,Option.getD_none,show (1:Int) > 0 by decide,if_true]
   by_cases h:i < 0
   ·simp only [h,if_true] <;> omega
   ·simp only [h,if_false] <;> omega
 ·cases hi with
  | none=>simp [sliceBounds,HT.sIx]
  | some i=>
   simp only [sliceBounds,HT.sIx,Option.getD_none,show (1:Int) > 0 by decide,if_true]
   by_cases h:i < 0
   ·simp only [h,if_true] <;> omega
   ·simp only [h,if_false] <;> omega
theorem wU (its:List Value) (lo hi:Option Int):slicePick its.toArray lo hi none=((its.drop (HT.sIx its.length 0 lo)).take (HT.sIx its.length its.length hi - HT.sIx its.length 0 lo)).toArray:=by
 obtain ⟨h1,h2,h3⟩:=Ag lo hi its.toArray.size;unfold slicePick;rw [h1,h2,h3];simp only [sliceRange_one,pick_run,ar] <;> rfl
noncomputable def Si (K:af):V->Option Int->Option Int->Hp->VK->Prop:=fun x lo hi H Q=>∃ a xs,x=.ref a/\SqL K H a xs/\∀ p,H p=none->Q (.ref p) (upd H p (.lst (BN xs lo hi)))
theorem N6:SlR X (Si X.K):=by
 intro pins s σ H x v vl vu lo hi sl Q I rx hs pl pu h;obtain ⟨a,xs,rfl,hx,q⟩:=h;cases rx
 obtain ⟨its,r,ht,hz⟩:=I.list hx;have hlen:=r.length;refine ⟨"list",_,slot_list_getitem.lookup,ht.isList.typeIs,?_⟩;refine wpAny_getItem_list_slice ht.isList hs pl pu .none (by simp) ?_ (by rw [ar] <;> omega);rw [wU,<- hlen];refine ⟨.ref s.heap.objs.size,_,I.laid (t':=s.toks) (o:=.lst (BN xs lo hi)) (fun b ob q=>ah _ q) (ai _) ?_,rfl,q _ (I.hok.fresh (ai _))⟩;exact ⟨c9 (rF xs lo hi) hz,_,0,(r.drop (HT.sIx xs.length 0 lo)).take (HT.sIx xs.length xs.length hi - HT.sIx xs.length 0 lo),ay _ rfl⟩
noncomputable def rG:V->Bool
 | .non=>true
 | .bl _=>true
 | .int _=>true
 | .str _=>true
 | _=>false
noncomputable def eqV:V->V->Bool
 | .non,.non=>true
 | .bl a,.bl b=>a == b
 | .bl a,.int b=>(if a then 1 else 0) == b
 | .int a,.bl b=>a == (if b then 1 else 0)
 | .int a,.int b=>a == b
 | .str a,.str b=>a == b
 | _,_=>false
theorem Qf {A:Around} {s:Shared} {y x:V} {u v:Value} (ry:RelV y u) (rx:RelV x v) (fy:rG y=true) (fx:rG x=true):SeqAt.EqAt A s u v (eqV y x):=by
 cases y with
 | non=>
  cases ry
  cases x with
  | non=>cases rx; exact SeqAt.EqAt.same _
  | bl b=>cases rx; exact SeqAt.EqAt.none_bool b
  | int b=>obtain ⟨t,rfl⟩:=rx; exact SeqAt.EqAt.none_int b t
  | str b=>obtain ⟨t,rfl⟩:=rx; exact SeqAt.EqAt.none_str b t
  | _=>exact absurd (show false=true from fx) bu
 | bl a=>
  cases ry
  cases x with
  | non=>cases rx; exact SeqAt.EqAt.bool_none a
  | bl b=>cases rx; exact SeqAt.EqAt.bool_bool a b
  | int b=>obtain ⟨t,rfl⟩:=rx; exact SeqAt.EqAt.bool_int a b t
  | str b=>obtain ⟨t,rfl⟩:=rx; exact SeqAt.EqAt.bool_str a b t
  | _=>exact absurd (show false=true from fx) bu
 | int a=>
  obtain ⟨t',rfl⟩:=ry;cases x with
  | non=>cases rx; exact SeqAt.EqAt.int_none a t'
  | bl b=>cases rx; exact SeqAt.EqAt.int_bool a t' b
  | int b=>obtain ⟨t,rfl⟩:=rx; exact SeqAt.EqAt.int_int a t' b t
  | str b=>obtain ⟨t,rfl⟩:=rx; exact SeqAt.EqAt.int_str a t' b t
  | _=>exact absurd (show false=true from fx) bu
 | str a=>
  obtain ⟨t',rfl⟩:=ry;cases x with
  | non=>cases rx; exact SeqAt.EqAt.str_none a t'
  | bl b=>cases rx; exact SeqAt.EqAt.str_bool a t' b
  | int b=>obtain ⟨t,rfl⟩:=rx; exact SeqAt.EqAt.str_int a t' b t
  | str b=>obtain ⟨t,rfl⟩:=rx; exact SeqAt.EqAt.str_str a t' b t
  | _=>exact absurd (show false=true from fx) bu
 | _=>exact absurd (show false=true from fy) bu
noncomputable def eqU (x:V) (u:Value):Bool:=match u with
 | .none=>eqV .non x
 | .bool b=>eqV (.bl b) x
 | .int i _=>eqV (.int i) x
 | .str z _=>eqV (.str z) x
 | _=>false
theorem JA {x y:V} {u:Value} (r:RelV y u) (f:rG y=true):eqU x u=eqV y x:=by
 cases y with
 | non=>cases r; rfl
 | bl b=>cases r; rfl
 | int i=>obtain ⟨t,rfl⟩:=r; rfl
 | str z=>obtain ⟨t,rfl⟩:=r; rfl
 | _=>exact absurd (show false=true from f) bu
theorem Ah {x:V}:∀ {xs:List V} {us:List Value},aN xs us->xs.all rG=true->us.any (eqU x)=xs.any fun y=>eqV y x
 | _,_,.nil,_=>rfl
 | y :: xs,u :: us,.cons r t,f=>by
  rw [jq,cm] at f;rw [kh,kh,JA r f.1,Ah t f.2]
theorem tK {A:Around} {s:Shared} {x:V} {v:Value} (rx:RelV x v) (fx:rG x=true):∀ {xs:List V} {us:List Value},aN xs us->xs.all rG=true->∀ u∈us,SeqAt.EqAt A s u v (eqU x u)
 | _,_,.nil,_=>fun u hu=>by cases hu
 | y :: xs,u :: us,.cons r t,f=>fun u' hu=>by
  rw [jq,cm] at f;rcases bc.mp hu with rfl | hu
  ·rw [JA r f.1]; exact Qf r rx f.1 fx
  ·exact tK rx fx t f.2 u' hu
noncomputable def inV (x:V) (xs:List V):Bool:=xs.any fun y=>eqV y x
noncomputable def rIn (K:af) (neg:Bool):R2:=fun x y H Q=>∃ p xs,y=.ref p/\(SqL K H p xs\/SqT K H p xs)/\rG x=true/\xs.all rG=true/\Q (.bl (if neg then !inV x xs else inV x xs)) H
theorem Ai:OpR X (cz .NotIn) (rIn X.K true):=by
 intro pins s σ H x y v u Q I rx ry h;obtain ⟨p,xs,rfl,hq,fx,fs,q⟩:=h;cases ry
 rcases hq with hq | hq
 ·obtain ⟨its,r,pl,hz⟩:=I.list hq;refine SeqAt.notIn_listAt (eqU x) pl.isList (fun w hw=>tK rx fx r fs w (by simpa using hw)) ⟨.bl _,H,I,rfl,?_⟩
  rw [show its.toArray.any (eqU x)=its.any (eqU x) by simp,Ah r fs];exact q
 ·obtain ⟨its,r,pl,hz⟩:=I.tuple hq;refine SeqAt.notIn_tupleAt (eqU x) pl (fun w hw=>tK rx fx r fs w (by simpa using hw)) ⟨.bl _,H,I,rfl,?_⟩
  rw [show its.toArray.any (eqU x)=its.any (eqU x) by simp,Ah r fs];exact q
theorem Aj:bT X (.builtin "len") (fun xs H Q=>∃ p ys,xs=[.ref p]/\(SqL X.K H p ys\/SqT X.K H p ys)/\Q (.int ys.length) H):=by
 intro pins s σ H xs us Q I r h;obtain ⟨p,ys,rfl,hq,q⟩:=h;obtain ⟨u,rfl,rx⟩:=vals1 r;cases rx
 have hn:=lW;rcases hq with hq | hq
 ·obtain ⟨its,r',pl,hz⟩:=I.list hq;have hlen:=r'.length;exact Calls.call_len_list pl.isList (by simp only [ar] <;> omega) ⟨.int ys.length,H,I.tok _,⟨s.toks+1,by rw [ar,hlen]⟩,q⟩
 ·obtain ⟨its,r',pl,hz⟩:=I.tuple hq;have hlen:=r'.length;exact len_tuple pl (by simp only [ar] <;> omega) ⟨.int ys.length,H,I.tok _,⟨s.toks+1,by rw [ar,hlen]⟩,q⟩
theorem bT.or {f:Value} {r r':List V->Hp->VK->Prop} (h:bT X f r) (h':bT X f r'):bT X f (fun xs H Q=>r xs H Q\/r' xs H Q):=by
 intro pins s σ H xs us Q I rs q;rcases q with q | q
 ·exact h pins s σ H xs us Q I rs q
 ·exact h' pins s σ H xs us Q I rs q
theorem Ak:bT X (.type "list") (fun xs H Q=>∃ p ys,xs=[.ref p]/\(SqL X.K H p ys\/SqT X.K H p ys)/\∀ l,H l=none->Q (.ref l) (upd H l (.lst ys))):=by
 intro pins s σ H xs us Q I r h;obtain ⟨p,ys,rfl,hq,q⟩:=h;obtain ⟨u,rfl,rx⟩:=vals1 r;cases rx
 have fin:∀ (its:List Value),aN ys its->ys.length<=au->∀ (h':Heap) (c':Nat),(∀ b o',s.heap.get? b=some o'->h'.get? b=some o')->
   h'.get? s.heap.objs.size=some { cls:=.type "list",dict:=none,data:=.seq its.toArray c',slots:=#[] }->EP X pins σ Q (.ref s.heap.objs.size) { s with heap:=h' }:=fun its r' hz h' c' kp e=>
  ⟨.ref s.heap.objs.size,_,I.laid (t':=s.toks) kp (ai _) (show cO X.prog X.w _ h' _ (.lst ys) from ⟨hz,its,c',r',e⟩),rfl,q _ (I.hok.fresh (ai _))⟩
 rcases hq with hq | hq
 ·obtain ⟨its,r',pl,hz⟩:=I.list hq;have hlen:=r'.length;obtain ⟨o,ho,hc,n,hd⟩:=pl.isList;exact call_list_seq p (.inl rfl) ho hc hd (fun h' c' kp e=>fin its r' hz h' c' kp e) (by simp only [ar] <;> omega)
 ·obtain ⟨its,r',pl,hz⟩:=I.tuple hq;have hlen:=r'.length;obtain ⟨o,ho,hc,n,hd⟩:=pl;exact call_list_seq p (.inr rfl) ho hc hd (fun h' c' kp e=>fin its r' hz h' c' kp e) (by simp only [ar] <;> omega)
theorem wV:bT X (.type "tuple") (fun xs H Q=>∃ p ys,xs=[.ref p]/\((SqL X.K H p ys/\∀ l,H l=none->Q (.ref l) (upd H l (.tup ys)))\/(SqT X.K H p ys/\Q (.ref p) H))):=by
 intro pins s σ H xs us Q I r h;obtain ⟨p,ys,rfl,h⟩:=h;obtain ⟨u,rfl,rx⟩:=vals1 r;cases rx
 rcases h with ⟨hq,q⟩ | ⟨hq,q⟩
 ·obtain ⟨its,r',pl,hz⟩:=I.list hq;have hlen:=r'.length;refine call_tuple_list pl.isList (fun h' kp=>?_) (by simp only [ar] <;> omega);have I1:Inv X pins σ H { s with heap:=h' }:=I.kept (t':=s.toks) kp;have I2:Inv X pins σ (upd H h'.objs.size (.tup ys)) { s with heap:=h'.push { cls:=.type "tuple",data:=.seq its.toArray } }:=
   I1.laid (t':=s.toks) (fun b o e=>ah _ e) (ai _) (show cO X.prog X.w _ _ _ (.tup ys) from ⟨hz,its,r',nB.new _ _⟩)
  exact ⟨.ref h'.objs.size,_,I2,rfl,q _ (I1.hok.fresh (ai _))⟩
 ·obtain ⟨its,r',pl,hz⟩:=I.tuple hq;exact call_tuple_same pl ⟨.ref p,H,I,rfl,q⟩
noncomputable def tyV (K:af) (T:String) (x:V) (H:Hp):Prop:=match x with
 | .str _=>T="str"
 | .int _=>T="int"
 | .ref p=>(T="list" /\ ∃ xs,SqL K H p xs)\/(T="tuple" /\ ∃ o,K.lookup p=some o/\o.cls=.type "tuple" /\ o.dict=none)\/
   (T="dict" /\ ((∃ kvs,H p=some (.dK kvs))\/∃ kvs,H p=some (.dT kvs)))\/(T="set" /\ ∃ S n,H p=some (.set S n))
 | _=>False
theorem Qg {pins:List (Addr×Obj)} {σ:St} {H:Hp} {s:Shared} {T:String} {x:V} {v:Value} (I:Inv X pins σ H s) (r:RelV x v) (ty:tyV X.K T x H):
  s.TypeIs v T/\∀ a,v=.ref a->∃ ob,s.heap.get? a=some ob/\ob.dict=none:=by
 cases x with
 | str z=>
  obtain ⟨t,rfl⟩:=r;cases (show T="str" from ty)
  exact ⟨typeIs_str s z t,fun _ e=>nomatch e⟩
 | int i=>
  obtain ⟨t,rfl⟩:=r;cases (show T="int" from ty)
  exact ⟨typeIs_int s i t,fun _ e=>nomatch e⟩
 | ref p=>
  cases r
  rcases ty with ⟨rfl,xs,hq⟩ | ⟨rfl,o,hk,hc,hd⟩ | ⟨rfl,hk⟩ | ⟨rfl,S,n,hk⟩
  ·obtain ⟨its,_,pl,_⟩:=I.list hq;refine ⟨pl.isList.typeIs,fun a e=>?_⟩;cases e
   obtain ⟨o,n,e,c,hd,_⟩:=pl;exact ⟨o,e,hd⟩
  ·refine ⟨⟨o,I.kIn p o hk,hc⟩,fun a e=>?_⟩;cases e
   exact ⟨o,I.kIn _ o hk,hd⟩
  ·have z:∃ o,s.heap.get? p=some o/\o.ExactDict:=by
    rcases hk with ⟨kvs,hk⟩ | ⟨kvs,hk⟩
    ·obtain ⟨_,_,_,_,o,_,_,e,ex,_⟩:=I.hok p _ hk;exact ⟨o,e,ex⟩
    ·obtain ⟨_,_,_,_,o,_,_,e,ex,_⟩:=I.hok p _ hk;exact ⟨o,e,ex⟩
   obtain ⟨o,e,ex⟩:=z;refine ⟨⟨o,e,ex.1⟩,fun a e2=>?_⟩;cases e2
   exact ⟨o,e,ex.2.1⟩
  ·obtain ⟨o,_,_,_,e,ex,_⟩:=I.hok p _ hk;refine ⟨⟨o,e,ex.1⟩,fun a e2=>?_⟩;cases e2
   exact ⟨o,e,ex.2.1⟩
 | _=>exact f9 ty
noncomputable def tBM (K:af) (T:String) (r:V->List V->Hp->VK->Prop) (to:TE) (t:TA):TE:=fun σ H Q=>to σ H fun x H1=>tyV K T x H1/\t σ H1 fun xs H2=>r x xs H2 Q
variable {o e:Expr} {es:List Expr} {to:TE} {t:TA} {name:Str} {apos cpos:Pos} {T id:String} {r:V->List V->Hp->VK->Prop}
theorem Sj (pa:PlainAttrs T) (slot:Slot T name id) (hty:typeOf (.builtin id)=pure (.type "method_descriptor")) (hm:MtR X id r) (ho:PE X o to) (ha:PA X (e :: es) t)
  (hbase:attributeBase o name X.env (eval o X.env)=eval o X.env:=by rfl)
  (hfew:((backTo cpos (bz (e :: es) X.env)).all (fun x=>!x.1) && (backToKw cpos (keywordEach [] X.env)).all (fun x=>x.1.isSome)
   && decide ((e :: es).length+([]:List Keyword).length+(if ([]:List Keyword).isEmpty then 0 else 1) < 30))=true:=by rfl)
  (hline:(apos.endLine == cpos.line)=true:=by rfl) (hs:bz (e :: es) X.env=(false,eval e X.env) :: bz es X.env:=by rfl) (hplain:(backTo cpos (bz es X.env)).any (·.1)=false:=by rfl):
  PE X (.Call (.Attribute o name apos) (e :: es) [] cpos) (tBM X.K T r to t):=by
 intro pins s σ H Q I h;refine wpAny_Call_method_late hbase hfew hline rfl (thn (ho pins s σ H _ I h) fun v s1 hz=>?_);obtain ⟨x,H1,I1,r1,ty,q1⟩:=hz;obtain ⟨h1,h2⟩:=Qg I1 r1 ty;refine ⟨T,id,pa,slot,hty,h1,h2,?_⟩;have hA:=ha cpos pins s1 σ H1 _ I1 q1;rw [hs] at hA ⊢;refine Calls.callWith_builtin (by show (false || (backTo cpos (bz es X.env)).any (·.1))=false; rw [hplain] <;> rfl) (Calls.evalArgs_plain ?_);exact thn hA fun us s2 ⟨vs,H2,I2,r2,q2⟩=>hm pins s2 σ H2 x vs v us Q I2 r1 r2 q2
end
noncomputable def MtM (X:Cx) (id:String) (r:V->List V->Hp->VK->Prop):Prop:=
 ∀ (pins:List (Addr×Obj)) (s:Shared) (σ:St) (H:Hp) (x:V) (xs:List V) (v:Value) (us:List Value) (Q:VK),Inv X pins σ H s->RelV x v->aN xs us->r x xs H Q->
  wpAny (model X.prog X.w) X.A (call (.builtin id) (v :: us)) (EP X pins σ Q) X.xe s
theorem aN.one:∀ {x:V} {us:List Value},aN [x] us->∃ u,us=[u]/\RelV x u
 | _,_,.cons r .nil=>⟨_,rfl,r⟩
section
variable {X:Cx} {pins:List (Addr×Obj)} {σ:St} {H:Hp} {s:Shared} {l b:Addr} {xs ys zs:List V}
theorem Inv.lset {its its':List Value} {n:Nat} {f:Array Value->Array Value} {t':Nat} (I:Inv X pins σ H s) (hH:H l=some (.lst xs))
  (e:s.heap.get? l=some { cls:=.type "list",data:=.seq its.toArray n }) (hf:f its.toArray=its'.toArray) (hv:aN ys its') (hz:ys.length<=au):
  Inv X pins σ (upd H l (.lst ys)) { s with heap:=s.heap.update l (cu f),toks:=t' }:=by
 have q:=PySem.IsL.update e f;rw [hf] at q;refine I.write (x:=l) (e:=l) (by rw [hH]; exact trivial) (.inl rfl) (fun b' u hb hu=>(Heap.get?_update_other s.heap (cu f) (i8 hb)).trans hu) ⟨_,q⟩ ?_;exact ⟨hz,its',_,hv,q⟩
theorem Inv.lnew {its:List Value} {t':Nat} (I:Inv X pins σ H s) (hv:aN ys its) (hz:ys.length<=au):
  Inv X pins σ (upd H s.heap.objs.size (.lst ys)) { s with heap:=s.heap.push { cls:=.type "list",data:=.seq its.toArray },toks:=t' }:=
 I.laid (fun _ _ q=>ah _ q) (ai _) ⟨hz,its,0,hv,ay _ rfl⟩
theorem Inv.fresh (I:Inv X pins σ H s):H s.heap.objs.size=none:=I.hok.fresh (ai _)
theorem Inv.lstM (I:Inv X pins σ H s) (hH:H l=some (.lst xs)):xs.length<=au/\∃ (its:List Value) (n:Nat),aN xs its/\xs.length=its.length/\s.heap.get? l=some { cls:=.type "list",data:=.seq its.toArray n }:=by
 obtain ⟨z,its,n,r,e⟩:=I.hok l _ hH;exact ⟨z,its,n,r,r.length,e⟩
end
section
variable {X:Cx}
noncomputable def FZ:V->List V->Hp->VK->Prop:=fun x vs H Q=>∃ l xs y,x=.ref l/\vs=[y]/\H l=some (.lst xs)/\xs.length < au/\Q .non (upd H l (.lst (xs++[y])))
theorem xZ:MtM X "list.append" FZ:=by
 intro pins s σ H x vs v us Q I rx rv h;obtain ⟨l,xs,y,rfl,rfl,hH,hz,q⟩:=h;cases rx
 obtain ⟨u,rfl,ru⟩:=rv.one;obtain ⟨z,its,n,r,hl,e⟩:=I.lstM hH;refine call_meets F.slot_list_append ⟨_,e,rfl⟩ F.entry_list_append (F.args_list_append_2 _ _) (PySem.list_append l its.toArray n u (by rw [ar]; omega)) ⟨e,?_⟩;refine ⟨.non,_,I.lset (its':=its++[u]) hH e (by simp) (r.append (.cons ru .nil)) ?_,rfl,q⟩;rw [c8,List.length_singleton];omega
noncomputable def Sk:R2:=fun x y H Q=>∃ l b xs zs,x=.ref l/\y=.ref b/\H l=some (.lst xs)/\H b=some (.lst zs)/\xs.length+zs.length<=au/\∀ p,H p=none->Q (.ref p) (upd H p (.lst (xs++zs)))
theorem Qh:OpR X (fe .Add) Sk:=by
 intro pins s σ H x y v u Q I rx ry h;obtain ⟨l,b,xs,zs,rfl,rfl,hH,hB,hz,q⟩:=h;cases rx
 cases ry
 obtain ⟨z,its,n,r,hl,e⟩:=I.lstM hH;obtain ⟨z2,its2,n2,r2,hl2,e2⟩:=I.lstM hB;refine PySem.P.add_list e e2 ?_ (by rw [ar,ar]; omega);have ea:its.toArray++its2.toArray=(its++its2).toArray:=by simp
 rw [ea];exact ⟨.ref _,_,I.lnew (t':=s.toks) (r.append r2) (by rw [c8]; omega),rfl,q _ I.fresh⟩
end
end L2
namespace Att
open PySem PySem.W PySem.Calls PyProof.Rows
theorem sH {P:Params} {h:Heap}:∀ (ns:List Int) (vs:List Value),WellAll P h vs (ns.map WData.int)->IntsAre vs ns:=by
 intro ns
 induction ns with
 | nil=>
  intro vs w;rw [List.map_nil] at w;cases w
  exact .nil
 | cons n ns ih=>
  intro vs w;rw [a7] at w;cases w with
  | cons a b=>
   cases a
   exact .cons _ _ (ih _ b)
theorem GV {l:OpenLaw} {n:Nat} (hn:l.most=some n) {P:Params} {h:Heap} {args:List WData} {vals:List Value}
  (hpre:l.row.toRowW.claim.pre args=true) (hwl:WellAll P h vals args):
  ∃ a vs ns,vals=[dm a]/\args=[WData.list (ns.map WData.int)]/\h.get? a=some { cls:=.type "list",data:=.seq vs.toArray }/\IntsAre vs ns/\ns.length<=n:=by
 have hsh:WShape.hasAll [] args [.list .int]=true:=(pre_splitW hpre).1;have hc:l.pre.holds [] { args:=args }=true:=(pre_splitW hpre).2;obtain ⟨d,r,rfl,h1,h2⟩:=hasAllW_cons hsh;obtain rfl:=hasAllW_nil h2;obtain ⟨xs,rfl,h3⟩:=hasW_list h1;obtain ⟨ns,rfl⟩:=items_int h3;have hlen:ns.length<=n:=by
  unfold OpenLaw.pre at hc;have h4:(WTm.not (.lt (.lit (.int (n:Int))) (.len (.arg 0)))).holds [] { args:=[.list (ns.map .int)] }=true:=by
   have h4:=(holds_andW hc).1;rw [hn] at h4;exact h4
  have h5:=condW_of h4 (w_not (w_lt w_lit (w_len_list (w_arg rfl))));rw [ae] at h5;refine Nat.le_of_not_lt fun q=>?_;have q':(n:Int) < ((ns.length:Nat):Int):=by omega
  first
   | (rw [decide_eq_true q'] at h5; exact absurd h5 (by decide))
   | (simp at h5; omega)
 cases hwl with
 | cons w1 w2=>
  cases w2
  cases w1 with
  | list ho hall=>exact ⟨_,_,ns,rfl,rfl,ho,sH ns _ hall,hlen⟩
theorem GW (l:OpenLaw) (args:List WData):l.row.toRowW.claim.post args (.bool true) args=true:=
 postW_of (r:=l.row.toRowW) (X:=(true == true))
  (show WShape.has [] (.bool true) .bool=true by first | rfl | decide | simp [WShape.has,WShape.arms,WShape.armsAll])
  (show (WTm.eq .res (.lit (.bool true))).value [] { args:=args,res:=some (.bool true),after:=args }=some (.bool (true == true)) from w_eq_bool (w_res rfl) w_lit) rfl
theorem attach_call {l:OpenLaw} {n:Nat} {q:Program} {loose:List Str} {XP:(Str->Option Value)->Heap->Prop} {YP:World->Heap->Prop} {d:DefRec}
  (hn:l.most=some n) (hdf:d.params.defaults=[])
  (call:∀ (w:World) (s₀ s₁:Shared) (mg mb:Str->Option Value) (fa:Addr) (o:Obj) (pm cd doc:Value) (a:Addr) (vs:List Value) (ns:List Int),
   Ground q loose [] XP w s₀ mg mb s₁.heap->YP w s₁.heap->
   s₁.heap.get? fa=some o->o.data=.func (docDef d.name d.params d.body d.scope pm cd doc)->s₁.heap.CodeRec cd d.name->mg d.name=some (.ref fa)->
   s₁.heap.get? a=some { cls:=.type "list",data:=.seq vs.toArray }->IntsAre vs ns->ns.length<=n->s₁.gens=#[]->
   codeAny (model l.prog w) callerA (.call (.ref fa) ⟨[.ref a],[]⟩) (fun r s'=>r=.ok (.ret (.bool true))/\OldK s₁.heap s'.heap/\s'.os=s₁.os/\AllBare s'.gens) s₁):
  WalkO q loose XP YP l.row.toRowW d [] (fun f vs=>PySem.call f vs):=by
 intro w s₀ s₁ mg mb G Y fa o pm cd doc dV kV ho hd hcd hD hmg hg args vals as hpre hlay hrd hwl hlo;obtain rfl:dV=.none:=Dflts.none hD hdf;obtain rfl:kV=.none:=Dflts.noKw hD;obtain ⟨a,vs,ns,rfl,rfl,hobj,hints,hlen⟩:=GV hn hpre hwl;refine enter_call (codeAny_mono (call w s₀ s₁ mg mb fa o pm cd doc a vs ns G Y ho (fd_plain hd) hcd hmg hobj hints hlen hg) fun r s' hq=>?_);obtain ⟨rfl,h2,h3,h4⟩:=hq;exact ⟨.inl ⟨.bool true,.bool true,[],rfl,fun _=>rfl,.bool true,GW l _,fun _=>⟨l8,fun _ hm=>(nomatch hm)⟩⟩,h2,h3,h4⟩
end Att
namespace L2
open PySem PySem.Spec PyProof.Rows
theorem yA:∀ {vs:List Value} {ns:List Int},IntsAre vs ns->aN (ns.map V.int) vs
 | _,_,.nil=>.nil
 | _,_,.cons n t h=>.cons ⟨t,rfl⟩ (yA h)
noncomputable def JB (H:Hp):Prop:=∀ b,H b=none\/∃ o xs,H b=some (.frz o (.lst xs))
theorem JC {P:Program} {w:World} {K:af} {mg mb:Str->Option Value} {CX:CXT} {k:Nat} {fa a:Addr} {fd:c5} {x:Str} {sp:Sp} {s₁:Shared} {vs:List Value} {ns:List Int}
  (KX:K.In s₁.heap) (hns:s₁.heap.Ns cf mg) (hb:s₁.heap.Ns builtinsNs mb) (hbb:∀ x:Str,x≠"__name__" -> mb x=k9 x) (hlim:s₁.heap.NoLimit) (hg:s₁.gens=#[])
  (ha:s₁.heap.get? a=some { cls:=.type "list",data:=.seq vs.toArray }) (hi:IntsAre vs ns) (hl:ns.length<=au) (hr:fQ k callerA)
  (F:∀ base:Heap,K.In base->base.Ns cf mg->aY P w K mg base CX k fa fd [x] sp) (hbind:∀ (s:Shared) (u:Value),BindsTo s fd ⟨[u],[]⟩ [(x,u)])
  (hsp:∀ H:Hp,JB H->SqL K H a (ns.map V.int)->sp [.ref a] H (fun v _=>v=.bl true) fun _ _ _=>False)
  (hCX:∀ H e s',CX [] H s₁ (fun _ _ _=>False) e s'->False):
  codeAny (model P w) callerA (.call (.ref fa) ⟨[.ref a],[]⟩) (fun r s'=>r=.ok (.ret (.bool true))/\OldK s₁.heap s'.heap/\s'.os=s₁.os/\AllBare s'.gens) s₁:=by
 have rv:=yA hi;have lenV:=hi.length
 -- from an abstract heap in which nothing but the script may be tracked
 have core:∀ H:Hp,JB H->SqL K H a (ns.map V.int)->HOk P w H s₁.heap->(∀ b,H b≠none->b=a)->(H a≠none->K.lookup a=none)->
   codeAny (model P w) callerA (.call (.ref fa) ⟨[.ref a],[]⟩) (fun r s'=>r=.ok (.ret (.bool true))/\OldK s₁.heap s'.heap/\s'.os=s₁.os/\AllBare s'.gens) s₁:=by
  intro H hO hS hok hA hK;have base_of:∀ {b:Addr} {o:Obj},s₁.heap.get? b=some o->H b=none->(Ab s₁.heap H).get? b=some o:=fun e n=>Ji e n;have noA:∀ {b:Addr} {o:Obj} {es:Array DictEntry} {ep:Nat},s₁.heap.get? b=some o->o.data=.dict es ep->H b=none:=fun {b o es ep} e d=>by
   cases q:H b with
   | none=>rfl
   | some u=>
    have e':b=a:=hA b (by rw [q]; simp);subst e';rw [ha] at e; cases e;have d':Data.seq vs.toArray _=Data.dict es ep:=d;cases d'
  have nsK:∀ {b:Addr} {m:Str->Option Value},s₁.heap.Ns b m->(Ab s₁.heap H).Ns b m:=fun {b m} ⟨o,es,ep,e,d,r⟩=>⟨o,es,ep,base_of e (noA e d),d,r⟩;have hKb:K.In (Ab s₁.heap H):=fun b o e=>base_of (KX b o e) (by
   cases q:H b with
   | none=>rfl
   | some u=>
    have e':b=a:=hA b (by rw [q]; simp);subst e';rw [hK (by rw [q]; simp)] at e; cases e)
  have hM:Mod K mg (Ab s₁.heap H):=⟨hKb,nsK hns,⟨mb,nsK hb,hbb⟩,let ⟨mc,h1,h2⟩:=hlim; ⟨mc,nsK h1,h2⟩⟩;have e0:DS P w K mg (Ab s₁.heap H) callerA [] s₁ H:=⟨rfl,hM,fun b o e=>MQ e,Nat.le_of_eq (GN _ _),trivial,fun b hb=>absurd (show b∈([]:List Addr) from hb) (by simp),hok,.of_eq hg⟩
  refine codeAny_mono ((F _ hKb (nsK hns)).run callerA [] s₁ H ⟨[.ref a],[]⟩ [.ref a] [.ref a] _ _ hr e0 (hbind s₁ (.ref a)) (.cons rfl .nil) (hsp H hO hS)) fun r s' h=>?_;cases r with
  | error e=>exact (hCX H e s' h).elim
  | ok fl=>
   cases fl with
   | next=>exact f9 h
   | brk=>exact f9 h
   | cont=>exact f9 h
   | ret u=>
    obtain ⟨v,H',os,bare,un,hok',r',q⟩:=h;have q':v=.bl true:=q;subst q';obtain rfl:u=Value.bool true:=r';refine ⟨rfl,OldK.of_keep fun b o e=>?_,os,bare⟩;cases q:H b with
    | none=>exact un.keep b o e q (by intro z; exact absurd (show b∈([]:List Addr) from z) (by simp)) (by simp)
    | some u=>
     rcases hO b with z | ⟨ob,xs,z⟩
     ·rw [q] at z; cases z
     ·have z2:=un.frzs b ob _ z;obtain ⟨e1,_⟩:=hok b _ z;obtain ⟨e2,_⟩:=hok' b _ z2;rw [e] at e1; cases e1;exact e2
 cases hk:K.lookup a with
 | some o=>
  -- the script is one of the module's own objects
  have e:=KX a o hk;rw [ha] at e;cases e
  refine core (fun _=>none) (fun _=>.inl rfl) (.inr ⟨_,vs.toArray,_,hk,rfl,rfl,rfl,by rw [ar,lenV]; exact hl,by simpa using rv⟩) (fun b u z=>by have z':(none:Option HO)=some u:=z; cases z') (fun b z=>absurd rfl z) fun z=>absurd rfl z
 | none=>
  refine core (fun b=>if b=a then some (.frz { cls:=.type "list",data:=.seq vs.toArray } (.lst (ns.map V.int))) else none) (fun b=>?_) (.inl (.inr ⟨{ cls:=.type "list",data:=.seq vs.toArray },if_pos rfl⟩)) (fun b u z=>?_) (fun b z=>?_) fun _=>hk
  ·by_cases hb:b=a
   ·exact .inr ⟨_,_,if_pos hb⟩
   ·exact .inl (if_neg hb)
  ·by_cases hb:b=a
   ·have z':=(if_pos hb).symm.trans z;cases z'
    subst hb;exact ⟨ha,by rw [ae]; exact hl,vs,_,rv,ha⟩
   ·have z':=(if_neg hb).symm.trans z;cases z'
  ·by_cases hb:b=a
   ·exact hb
   ·exact absurd (if_neg hb) z
theorem walk_of {l:PySem.W.OpenLaw} {n k:Nat} {q:Program} {loose:List Str} {XP:(Str->Option Value)->Heap->Prop} {YP:World->Heap->Prop} {d:DefRec} {K:Params->af} {CX:World->CXT} {sp:World->Sp} {x:Str}
  (hn:l.most=some n) (hn2:n<=au) (hdf:d.params.defaults=[]) (hr:fQ k callerA)
  (hY:∀ (w:World) (h:Heap),YP w h->(K w.params).In h)
  (F:∀ (w:World) (mg:Str->Option Value) (fa:Addr) (h:Heap),(K w.params).In h->h.Ns cf mg->mg d.name=some (.ref fa)->
   ∃ fd:c5,(∀ (s:Shared) (u:Value),BindsTo s fd ⟨[u],[]⟩ [(x,u)])/\
    ∀ base:Heap,(K w.params).In base->base.Ns cf mg->aY l.prog w (K w.params) mg base (CX w) k fa fd [x] (sp w))
  (hsp:∀ (w:World) (H:Hp) (a:Addr) (ns:List Int),ns.length<=n->JB H->SqL (K w.params) H a (ns.map V.int)->sp w [.ref a] H (fun v _=>v=.bl true) fun _ _ _=>False)
  (hCX:∀ (w:World) (H:Hp) (s:Shared) (e:Value) (s':Shared),CX w [] H s (fun _ _ _=>False) e s'->False):
  PySem.W.WalkO q loose XP YP l.row.toRowW d [] (fun f vs=>PySem.call f vs):=by
 refine Att.attach_call hn hdf fun w s₀ s₁ mg mb fa o pm cd doc a vs ns G Y ho hd hcd hmg hobj hints hlen hg=>?_;have KX:=hY w _ Y;obtain ⟨fd,hb,hF⟩:=F w mg fa _ KX G.T.g hmg;exact JC KX G.T.g G.T.b G.T.builtins G.T.nolimit hg hobj hints (c9 hlen hn2) hr hF hb (fun H hO hS=>hsp w H a ns hlen hO hS) fun H e s'=>hCX w H s₁ e s'
noncomputable def aU (s:Stmt):Arguments:=match s with
 | .FunctionDef _ a _ _ _ _ _ _ _ _=>a
 | _=>{ posonlyargs:=[],args:=[],vararg:=none,kwonlyargs:=[],kw_defaults:=[],kwarg:=none,defaults:=[] }
noncomputable def aQ (s:Stmt):List Stmt:=match s with
 | .FunctionDef _ _ b _ _ _ _ _ _ _=>b
 | _=>[]
noncomputable def aF (s:Stmt):Scope:=match s with
 | .FunctionDef _ _ _ _ _ _ sc _ _ _=>sc
 | _=>{ kind:=.function,names:=[],isGenerator:=false,isCoroutine:=false }
noncomputable abbrev CX0:CXT:=fun _ _ _ _ _ _=>False
noncomputable abbrev E0:XK:=fun _ _ _=>False
theorem Sl {X:Cx}:DT CX0 X E0:=fun _ _ _ _ _ _ _ h=>h.elim
structure Fun (K:af) (x qual:Str) (st:Stmt) (f:Addr) (fd:c5):Prop where
 ex:∃ (oc:Value) (od:Option Addr) (kV doc pm:Value) (an:Option Addr) (cdv ct:Value) (osl:Array (Option Value)),
  fd=b9 x qual (aU st) (aQ st) (aF st) .none kV doc pm an cdv ct/\K.lookup f=some ⟨oc,od,.func fd,osl⟩/\cb K cdv qual=true
 kp:bp K (.ref f)=true
section
variable {P:Program} {w:World} {K:af} {mg:Str->Option Value} {base:Heap}
theorem Fun.ok {x qual:Str} {st:Stmt} {f:Addr} {fd:c5} {N ps:List Str} {k:Nat} {sp:Sp} (F:Fun K x qual st f fd) (S:aZ N ps (aF st)) (len:∀ vs H Q E,sp vs H Q E->vs.length=ps.length)
  (hbody:∀ (cdv:Value) (A:Around) (outer:List Env) (s:Shared) (H:Hp) (vs:List V) (Q:VK) (E:XK),fQ k (A.deeper (envOfC qual (aF st) s.heap.objs.size f cdv))->sp vs H Q E->
   ∃ t,PSs (DU CX0 P w K mg base N qual (aF st) f cdv A outer s H E).nox (aQ st) t/\t { nx:=fun _ H'=>Q .non H',rt:=Q } (start N vs) H):aY P w K mg base CX0 (k+1) f fd ps sp:=by
 obtain ⟨oc,od,kV,doc,pm,an,cdv,ct,osl,rfl,lk,hcd⟩:=F.ex;refine Se lk hcd S len fun A outer s H vs Q E hr hsp=>?_;obtain ⟨t,h,q⟩:=hbody cdv A outer s H vs Q E hr hsp;exact ⟨t,h.nox,q⟩
theorem Fun.binds {x qual:Str} {st:Stmt} {f:Addr} {fd:c5} {ps:List Str} (F:Fun K x qual st f fd)
  (h:∀ (kV doc pm:Value) (an:Option Addr) (cdv ct:Value) (us:List Value),us.length=ps.length->bindArgs (b9 x qual (aU st) (aQ st) (aF st) .none kV doc pm an cdv ct) ⟨us,[]⟩=pure (ps.zip us)):Binds K fd ps []:=by
 obtain ⟨oc,od,kV,doc,pm,an,cdv,ct,osl,rfl,lk,hcd⟩:=F.ex;exact .all (h kV doc pm an cdv ct)
theorem DY {x qual:Str} {st:Stmt} {f:Addr} {oc:Value} {od an:Option Addr} {osl:Array (Option Value)} {kV doc pm cdv ct:Value} (l:K.lookup f=some ⟨oc,od,.func (b9 x qual (aU st) (aQ st) (aF st) .none kV doc pm an cdv ct),osl⟩)
  (c:cb K cdv qual=true) (k:bp K (.ref f)=true):Fun K x qual st f (b9 x qual (aU st) (aQ st) (aF st) .none kV doc pm an cdv ct):=⟨⟨oc,od,kV,doc,pm,an,cdv,ct,osl,rfl,l,c⟩,k⟩
end
theorem Sm {A:Around} {k:Nat} (hr:fQ k A):A.units+1 < cLine:=Nat.lt_of_le_of_lt (Nat.add_le_add_left (by decide:1<=64) _) hr.units
section
variable {X:Cx}
theorem pv (i:Nat) {x:Str} {pos:Pos} (hN:X.N[i]?=some x:=by rfl) (hv:Vis X.env.scope x:=by first | exact Or.inl rfl | exact Or.inr (Or.inl rfl) | exact Or.inr (Or.inr rfl)) (hd:(x == ("__debug__" : Str))=false:=by decide)
  (hcd:(x == ("__classdict__" : Str))=false:=by decide):PE X (.Name x pos) (RU i):=DM hN hv hd hcd
end
theorem DZ {A B:Prop} (h:B):if false=true then A else B:=by
 rw [if_neg bu];exact h
theorem E1 {A B:Prop} (h:A):if true=true then A else B:=by
 rw [if_pos rfl];exact h
noncomputable def BO (H H':Hp):Prop:=∀ b o,H b=some o->H' b=some o
section
variable {κ:Type} [DecidableEq κ]
noncomputable def iB (kvs:List (κ×V)) (k:κ):Option V:=(kvs.find? fun kv=>decide (kv.1=k)).map (·.2)
noncomputable def putK (kvs:List (κ×V)) (k:κ) (v:V):List (κ×V):=
 if (kvs.any fun kv=>decide (kv.1=k))=true then kvs.map (fun kv=>if kv.1=k then (kv.1,v) else kv) else kvs++[(k,v)]
theorem nC {p:κ×V} {r:List (κ×V)} {k:κ} (e:p.1=k):iB (p :: r) k=some p.2:=by simp [iB,ij,e]
theorem nD {p:κ×V} {r:List (κ×V)} {k:κ} (e:¬ p.1=k):iB (p :: r) k=iB r k:=by simp [iB,ij,e]
theorem tL (k:κ):∀ kvs:List (κ×V),(kvs.any fun kv=>decide (kv.1=k))=(iB kvs k).isSome
 | []=>rfl
 | p :: r=>by
  rw [kh]
  by_cases e:p.1=k
  ·simp only [nC e,decide_eq_true e,Bool.true_or,iy]
  ·rw [nD e,decide_eq_false e,Bool.false_or]; exact tL k r
theorem gK (kvs:List (κ×V)) (k:κ) (v:V):(putK kvs k v).length<=kvs.length+1:=by
 unfold putK;split
 ·rw [ae]; omega
 ·rw [c8,dk,List.length_nil]; omega
theorem sG.isSome_eq {o:Option V} {u:Option Value} (r:sG o u):o.isSome=u.isSome:=by
 cases o with
 | none=>cases u with
  | none=>rfl
  | some _=>exact (show False from r).elim
 | some _=>cases u with
  | none=>exact (show False from r).elim
  | some _=>rfl
theorem sG.getD {o:Option V} {u:Option Value} {d:V} {d':Value} (r:sG o u) (rd:RelV d d'):RelV (o.getD d) (u.getD d'):=by
 cases o with
 | none=>cases u with
  | none=>exact rd
  | some _=>exact (show False from r).elim
 | some _=>cases u with
  | none=>exact (show False from r).elim
  | some _=>exact r
theorem KV.val {kvs:List (κ×V)} {vs:List (κ×Value)} (r:KV kvs vs) (k:κ):sG (iB kvs k) (valueAt vs k):=by
 unfold KV at r
 induction r with
 | nil=>exact jy
 | @cons p q ps qs h t ih=>
  obtain ⟨h1,h2⟩:=h
  by_cases e:p.1=k
  ·have e':q.1=k:=h1.symm.trans e;have b:valueAt (q :: qs) k=some q.2:=by simp [valueAt,ij,e']
   rw [nC e,b]; exact h2
  ·have e':¬ q.1=k:=fun z=>e (h1.trans z);have b:valueAt (q :: qs) k=valueAt qs k:=by simp [valueAt,ij,e']
   rw [nD e,b]; exact ih
theorem KV.any {kvs:List (κ×V)} {vs:List (κ×Value)} (r:KV kvs vs) (k:κ):(kvs.any fun kv=>decide (kv.1=k))=vs.any fun kv=>decide (kv.1=k):=by
 unfold KV at r
 induction r with
 | nil=>rfl
 | cons h t ih=>rw [kh,kh,ih,h.1]
theorem KV.repl {kvs:List (κ×V)} {vs:List (κ×Value)} (r:KV kvs vs) (k:κ) {y:V} {u:Value} (ry:RelV y u):
  KV (kvs.map fun kv=>if kv.1=k then (kv.1,y) else kv) (vs.map fun kv=>if kv.1=k then (kv.1,u) else kv):=by
 unfold KV at r ⊢
 induction r with
 | nil=>exact .nil
 | @cons p q ps qs h t ih=>
  rw [a7,a7];refine .cons ?_ ih;obtain ⟨h1,h2⟩:=h
  by_cases e:p.1=k
  ·rw [if_pos e,if_pos (h1.symm.trans e)]; exact ⟨h1,ry⟩
  ·rw [if_neg e,if_neg (fun z=>e (h1.trans z))]; exact ⟨h1,h2⟩
theorem KV.put {kvs:List (κ×V)} {vs:List (κ×Value)} (r:KV kvs vs) (k:κ) {y:V} {u:Value} (ry:RelV y u):KV (putK kvs k y) (stored vs k u):=by
 unfold putK stored;rw [r.any k]
 by_cases e:(vs.any fun kv=>decide (kv.1=k))=true
 ·rw [if_pos e,if_pos e]; exact r.repl k ry
 ·rw [if_neg e,if_neg e]; exact Paired.snoc r ⟨rfl,ry⟩
theorem KV.length {kvs:List (κ×V)} {vs:List (κ×Value)} (r:KV kvs vs):kvs.length=vs.length:=eu r
end
theorem rH {P:Program} {w:World} {k:Key} {u:Value} (r:RelV (kV k) u):(bN P w).is k u=true:=by
 cases k with
 | inl i=>obtain ⟨t,e⟩:=(show ∃ t,u=Value.int i t from r); subst e; exact BF P w i t
 | inr x=>obtain ⟨t,e⟩:=(show ∃ t,u=Value.str x t from r); subst e; exact BG P w x t
theorem yB {P:Program} {w:World}:∀ {ks:List Key} {us:List Value},aN (ks.map kV) us->ItemsAre (bN P w) ks us
 | [],_,r=>by rw [List.map_nil] at r; cases r; exact .nil
 | k :: ks,_,r=>by
  rw [a7] at r;cases r with
  | cons h t=>exact .cons (rH h) (yB t)
noncomputable abbrev KT (H:Hp):List (List Key×V)->List (List Key×Addr×Value)->Prop:=Paired fun p q=>p.1=q.1/\H q.2.1=some (.tup (p.1.map kV))/\RelV p.2 q.2.2
theorem KT.val {H:Hp} {kvs:List (List Key×V)} {xs:List (List Key×Addr×Value)} (r:KT H kvs xs) (k:List Key):sG (iB kvs k) ((atKey xs k).map (·.2)):=by
 induction r with
 | nil=>exact jy
 | @cons p q ps qs h t ih=>
  obtain ⟨h1,_,h2⟩:=h
  by_cases e:p.1=k
  ·have e':q.1=k:=h1.symm.trans e;have b:atKey (q :: qs) k=some q.2:=by simp [atKey,ij,e']
   rw [nC e,b]; exact h2
  ·have e':¬ q.1=k:=fun z=>e (h1.trans z);have b:atKey (q :: qs) k=atKey qs k:=by simp [atKey,ij,e']
   rw [nD e,b]; exact ih
theorem KT.repl {H:Hp} {kvs:List (List Key×V)} {xs:List (List Key×Addr×Value)} (r:KT H kvs xs) (k:List Key) {y:V} {u:Value} (ry:RelV y u):
  KT H (kvs.map fun kv=>if kv.1=k then (kv.1,y) else kv) (xs.map (putAt k u)):=by
 induction r with
 | nil=>exact .nil
 | @cons p q ps qs h t ih=>
  rw [a7,a7];refine .cons ?_ ih;obtain ⟨h1,h2,h3⟩:=h;unfold putAt
  by_cases e:p.1=k
  ·rw [if_pos e,if_pos (h1.symm.trans e)]; exact ⟨h1,h2,ry⟩
  ·rw [if_neg e,if_neg (fun z=>e (h1.trans z))]; exact ⟨h1,h2,h3⟩
theorem KT.put {H:Hp} {kvs:List (List Key×V)} {xs:List (List Key×Addr×Value)} (r:KT H kvs xs) (k:List Key) {b:Addr} {y:V} {u:Value} (hb:H b=some (.tup (k.map kV))) (ry:RelV y u):
  KT H (putK kvs k y) (storedH xs k b u):=by
 have e:(kvs.any fun kv=>decide (kv.1=k))=(atKey xs k).isSome:=by
  rw [tL,(r.val k).isSome_eq,Option.isSome_map]
 unfold putK storedH;rw [e]
 by_cases q:(atKey xs k).isSome=true
 ·rw [if_pos q,if_pos q]; exact r.repl k ry
 ·rw [if_neg q,if_neg q]; exact Paired.snoc r ⟨rfl,hb,ry⟩
theorem KT.keeps {H H':Hp} {kvs:List (List Key×V)} {xs:List (List Key×Addr×Value)} (r:KT H kvs xs) (ht:∀ b ys,H b=some (.tup ys)->H' b=some (.tup ys)):KT H' kvs xs:=
 Paired.mapP r fun _ _ z=>⟨z.1,ht _ _ z.2.1,z.2.2⟩
section
variable {P:Program} {w:World} {H:Hp} {h:Heap} {a:Addr}
theorem Pe {u:HO} (ok:HOk P w H h) (e:Rd H a u):cO P w H h a u:=e.ok ok
theorem rJ {kvs:List (Key×V)} (ok:HOk P w H h) (e:Rd H a (.dK kvs)):kvs.length<=au/\(a == fg)=false/\∃ vs,KV kvs vs/\h.DictOf (bN P w) a vs:=
 show cO P w H h a (.dK kvs) from Pe ok e
theorem BP {kvs:List (Key×V)} (ok:HOk P w H h) (e:H a=some (.dK kvs)):kvs.length<=au/\(a == fg)=false/\∃ vs,KV kvs vs/\h.DictOf (bN P w) a vs:=rJ ok (.inl e)
theorem pM {ks:List Key} (ok:HOk P w H h) (e:H a=some (.tup (ks.map kV))):(tupleKind (bN P w)).is h ks a:=by
 obtain ⟨_,its,r,o,h1,h2,⟨n,h3⟩,_⟩:=(show cO P w H h a (.tup (ks.map kV)) from ok a _ e)
 exact ⟨o,its.toArray,n,h1,h2,h3,by simpa using yB r⟩
theorem yC {kvs:List (List Key×V)} (ok:HOk P w H h) (e:Rd H a (.dT kvs)):kvs.length<=au/\(a == fg)=false/\
  ∃ xs,KT H kvs xs/\h.DictOfH (tupleKind (bN P w)) a xs:=by
 obtain ⟨z,y,xs,r,o,es,ep,h1,h2,h3,h4,h5⟩:=(show cO P w H h a (.dT kvs) from Pe ok e)
 refine ⟨z,y,xs,r,o,es,ep,h1,h2,h3,h4,fun x hx=>?_,h5⟩;have all:∀ {l:List (List Key×V)} {m:List (List Key×Addr×Value)},KT H l m->∀ x∈m,(tupleKind (bN P w)).is h x.1 x.2.1:=by
  intro l m q
  induction q with
  | nil=>intro x hx; exact nomatch hx
  | @cons p q ps qs hq t ih=>
   intro x hx;rcases bc.mp hx with e | hx
   ·subst e;exact pM ok (by rw [<- hq.1]; exact hq.2.1)
   ·exact ih x hx
 exact all r x hx
theorem Sn {kvs:List (List Key×V)} (ok:HOk P w H h) (e:H a=some (.dT kvs)):kvs.length<=au/\(a == fg)=false/\
  ∃ xs,KT H kvs xs/\h.DictOfH (tupleKind (bN P w)) a xs:=yC ok (.inl e)
end
noncomputable def pN (H:Hp) (a:Addr) (y:V) (r:Option V):Prop:=
 (∃ kvs k,Rd H a (.dK kvs)/\y=kV k/\r=iB kvs k)\/∃ kvs k b,Rd H a (.dT kvs)/\y=.ref b/\H b=some (.tup (k.map kV))/\r=iB kvs k
noncomputable def Qi (H:Hp) (a:Addr) (y v:V) (H':Hp):Prop:=
 (∃ kvs k,H a=some (.dK kvs)/\y=kV k/\kvs.length < au/\H'=upd H a (.dK (putK kvs k v)))\/
 ∃ kvs k b,H a=some (.dT kvs)/\y=.ref b/\H b=some (.tup (k.map kV))/\kvs.length < au/\H'=upd H a (.dT (putK kvs k v))
theorem pN.k {H:Hp} {a:Addr} {kvs:List (Key×V)} {k:Key} (e:H a=some (.dK kvs)):pN H a (kV k) (iB kvs k):=.inl ⟨kvs,k,.inl e,rfl,rfl⟩
theorem Qi.k {H:Hp} {a:Addr} {kvs:List (Key×V)} {k:Key} {v:V} (e:H a=some (.dK kvs)) (hl:kvs.length < au):Qi H a (kV k) v (upd H a (.dK (putK kvs k v))):=.inl ⟨kvs,k,e,rfl,hl,rfl⟩
section
variable {X:Cx} {pins:List (Addr×Obj)} {σ:St} {H:Hp} {s:Shared} {a:Addr} {y v:V} {u r:Value} {o:Option V} {A:Around} {E:Value->Shared->Prop}
theorem Inv.big (I:Inv X pins σ H s):fg < s.heap.objs.size:=by
 have h:cf < s.heap.objs.size:=(I.mod.glob.keeps I.bk).lt;exact lj (by decide) h
theorem GX {Q:Value->Shared->Prop} (hu:A.units+1 < cLine) (I:Inv X pins σ H s) (g:pN H a y (some v)) (ry:RelV y u) (h:∀ w' s',Inv X pins σ H s'->RelV v w'->Q w' s'):
  wpAny (model X.prog X.w) A (getItem (.ref a) u) Q E s:=by
 rcases g with ⟨kvs,k,e,ey,l⟩ | ⟨kvs,k,b,e,ey,eb,l⟩
 ·subst ey;obtain ⟨z,hd,vs,rel,dd⟩:=rJ I.hok e;obtain ⟨w',hw,rw'⟩:=sG.some_of (v:=v) (o:=valueAt vs k) (by rw [l]; exact rel.val k);exact wpAny_getItem_of (rH ry) dd.mapOf hw (h w' _ (I.tok _) rw')
 ·subst ey;cases (show u=dm b from ry)
  obtain ⟨z,hd,xs,rel,dd⟩:=yC I.hok e;obtain ⟨w',hw,rw'⟩:=sG.some_of (v:=v) (o:=(atKey xs k).map (·.2)) (by rw [l]; exact rel.val k);obtain ⟨p,hp,hp2⟩:=bf.mp hw;refine wpAny_getItem_heap (j3 hu) (pM I.hok eb) dd hp ?_;rw [hp2];exact h w' _ (I.tok _) rw'
theorem N7 {Q:Value->Shared->Prop} (hu:A.units+1 < cLine) (I:Inv X pins σ H s) (g:pN H a y o) (ry:RelV y u) (h:∀ s',Inv X pins σ H s'->Q (.bool (!o.isSome)) s'):
  wpAny (model X.prog X.w) A (cz .NotIn u (.ref a)) Q E s:=by
 rcases g with ⟨kvs,k,e,ey,l⟩ | ⟨kvs,k,b,e,ey,eb,l⟩
 ·subst ey;obtain ⟨z,hd,vs,rel,dd⟩:=rJ I.hok e;refine wpAny_notIn_of (rH ry) hd dd.mapOf ?_;rw [<- (rel.val k).isSome_eq,<- l];exact h _ (I.tok _)
 ·subst ey;cases (show u=dm b from ry)
  obtain ⟨z,hd,xs,rel,dd⟩:=yC I.hok e;refine wpAny_notIn_heap (j3 hu) (pM I.hok eb) hd dd ?_;have q:=(rel.val k).isSome_eq;rw [Option.isSome_map] at q;rw [<- q,<- l];exact h _ (I.tok _)
theorem nE {h':Heap} {t':Nat} {ob:HO} (I:Inv X pins σ H s) (mu:Mut (H a)) (hs:gd a s.heap h') (he:∃ q,h'.get? a=some q) (new:cO X.prog X.w (upd H a ob) h' a ob):
  Inv X pins σ (upd H a ob) { s with heap:=h',toks:=t' }:=
 I.write (x:=a) (e:=a) mu (.inl rfl) (fun b q hb z=>(hs.2 b hb).trans z) he new
theorem Al {P:Program} {w:World} {H':Hp} {h':Heap} {kvs:List (Key×V)} {vs:List (Key×Value)} (z:kvs.length<=au) (hd:(a == fg)=false) (rel:KV kvs vs) (dd:h'.DictOf (bN P w) a vs):
  cO P w H' h' a (.dK kvs):=⟨z,hd,vs,rel,dd⟩
theorem GY {H':Hp} {Q:Unit->Shared->Prop} (hu:A.units+1 < cLine) (I:Inv X pins σ H s) (g:Qi H a y v H') (ry:RelV y u) (rv:RelV v r) (h:∀ s',Inv X pins σ H' s'->Q () s'):
  wpAny (model X.prog X.w) A (setItem (.ref a) u r) Q E s:=by
 rcases g with ⟨kvs,k,e,ey,l,eH⟩ | ⟨kvs,k,b,e,ey,eb,l,eH⟩
 ·subst ey eH;obtain ⟨z,hd,vs,rel,dd⟩:=BP I.hok e;have hz:vs.length<=au:=by rw [<- rel.length]; exact z
  have hl:(putK kvs k v).length<=au:=by have:=gK kvs k v; omega
  refine wpAny_setItem_pairs (hsz:=hz) (rH ry) dd fun h' dd' hs=>h _ ?_;have he:∃ q,h'.get? a=some q:=let ⟨q,_,_,hq,_⟩:=dd'; ⟨q,hq⟩;exact nE I (by rw [e]; exact jy) hs he (Al hl hd (rel.put k rv) dd')
 ·subst ey eH;cases (show u=dm b from ry)
  obtain ⟨z,hd,xs,rel,dd⟩:=Sn I.hok e;have hz:xs.length<=au:=by rw [<- eu rel]; exact z
  have hl:(putK kvs k v).length<=au:=by have:=gK kvs k v; omega
  refine wpAny_setItem_heap (hsz:=hz) (j3 hu) (pM I.hok eb) dd fun h' dd' hs=>h _ ?_;obtain ⟨q,es,ep,hq,h2,h3,h4,_,h5⟩:=dd';refine nE I (by rw [e]; exact jy) hs ⟨q,hq⟩ ⟨hl,hd,_,(rel.put k eb rv).keeps fun c ys ec=>?_,q,es,ep,hq,h2,h3,h4,h5⟩;rw [bG (RT ec e (fun z=>nomatch z))];exact ec
end
section
variable {X:Cx} {pins:List (Addr×Obj)} {σ:St} {H:Hp} {s:Shared} {a:Addr} {kvs:List (Key×V)} {k:Key} {u:Value} {A:Around} {E:Value->Shared->Prop}
theorem So {Q:Value->Shared->Prop} (I:Inv X pins σ H s) (e:Rd H a (.dK kvs)) (h:∀ t s',Inv X pins σ H s'->Q (.int kvs.length t) s'):wpAny (model X.prog X.w) A (call (.builtin "len") [.ref a]) Q E s:=by
 obtain ⟨z,hd,vs,rel,dd⟩:=rJ I.hok e;refine call_len_dict hd dd (by rw [<- rel.length]; rw [c3] at z; omega) ?_;rw [<- rel.length];exact h _ _ (I.tok _)
end
theorem BQ {X:Cx} {pins:List (Addr×Obj)} {σ:St} {H:Hp} {s:Shared} {a:Addr} {y:V} {o:Option V} (I:Inv X pins σ H s) (g:pN H a y o):s.TypeIs (.ref a) "dict" := by
 rcases g with ⟨kvs,k,e,_,_⟩ | ⟨kvs,k,b,e,_,_,_⟩
 ·obtain ⟨_,_,vs,_,dd⟩:=rJ I.hok e;exact dd.typeIs
 ·obtain ⟨_,_,xs,_,dd⟩:=yC I.hok e;exact dd.typeIs
theorem JD {P:Program} {w:World} {H:Hp} (h:Heap) (hb:fg < h.objs.size):cO P w H (h.push { cls:=.type "dict",data:=.dict #[] }) h.objs.size (.dK []):=
 ⟨b8 _,beq_eq_false_iff_ne.mpr (i8 (a9 hb)),[],.nil,Heap.DictOf.new h⟩
noncomputable def Qj:TE:=fun _ H Q=>∀ p,H p=none->Q (.ref p) (upd H p (.dK []))
section
variable {X:Cx} {pos:Pos}
theorem JE:PE X (.Dict [] [] pos) Qj:=fun pins s σ H Q I h=>
 wpAny_Dict_empty ⟨.ref s.heap.objs.size,_,I.laid (a:=s.heap.objs.size) (o:=.dK []) (t':=s.toks) (fun _ _ q=>ah _ q) (ai _) (JD s.heap I.big),rfl,h _ (I.hok.fresh (ai _))⟩
end
noncomputable def pO (kvs more:List (Key×V)):List (Key×V):=more.foldl (fun acc kv=>putK acc kv.1 kv.2) kvs
theorem KV.merge:∀ {more:List (Key×V)} {rs:List (Key×Value)} {kvs:List (Key×V)} {vs:List (Key×Value)},KV more rs->KV kvs vs->KV (pO kvs more) (merged vs rs):=by
 intro more rs kvs vs r;unfold KV at r
 induction r generalizing kvs vs with
 | nil=>intro q; exact q
 | @cons p q ps qs h t ih=>
  intro r0;have e:KV (putK kvs p.1 p.2) (stored vs q.1 q.2):=by
   have:=r0.put p.1 h.2;rw [<- h.1]; exact this
  exact ih e
theorem lO:∀ (more kvs:List (Key×V)),(pO kvs more).length<=kvs.length+more.length
 | [],kvs=>by show kvs.length<=kvs.length+0; omega
 | p :: r,kvs=>by
  have h1:=lO r (putK kvs p.1 p.2);have h2:=gK kvs p.1 p.2
  show (pO (putK kvs p.1 p.2) r).length<=_
  rw [dk]; omega
structure M1 (X:Cx) (o:Expr) (m:Str) (apos:Pos) (e:Expr) (cpos:Pos):Prop where
 base:attributeBase o m X.env (eval o X.env)=eval o X.env
 few:((backTo cpos (bz [e] X.env)).all (fun x=>!x.1) && (backToKw cpos (keywordEach [] X.env)).all (fun x=>x.1.isSome)
  && decide (([e]:List Expr).length+([]:List Keyword).length+(if ([]:List Keyword).isEmpty then 0 else 1) < 30))=true
 line:(apos.endLine == cpos.line)=true
 trees:backTo cpos (bz [e] X.env)=[(false,eval e X.env)]
structure M2 (X:Cx) (o:Expr) (m:Str) (apos:Pos) (e f:Expr) (cpos:Pos):Prop where
 base:attributeBase o m X.env (eval o X.env)=eval o X.env
 few:((backTo cpos (bz [e,f] X.env)).all (fun x=>!x.1) && (backToKw cpos (keywordEach [] X.env)).all (fun x=>x.1.isSome)
  && decide (([e,f]:List Expr).length+([]:List Keyword).length+(if ([]:List Keyword).isEmpty then 0 else 1) < 30))=true
 line:(apos.endLine == cpos.line)=true
 trees:backTo cpos (bz [e,f] X.env)=[(false,eval e X.env),(false,eval f X.env)]
section
variable {X:Cx} {pins:List (Addr×Obj)} {σ:St} {H:Hp} {s:Shared} {a:Addr} {y d:V} {u r:Value} {o:Option V} {A:Around} {E:Value->Shared->Prop}
theorem Qk {Q:Value->Shared->Prop} (hu:A.units+1 < cLine) (I:Inv X pins σ H s) (g:pN H a y o) (ry:RelV y u) (h:∀ w' s',Inv X pins σ H s'->RelV (o.getD .non) w'->Q w' s'):
  wpAny (model X.prog X.w) A (call (.builtin "dict.get") [.ref a,u]) Q E s:=by
 rcases g with ⟨kvs,k,e,ey,l⟩ | ⟨kvs,k,b,e,ey,eb,l⟩
 ·subst ey;obtain ⟨z,hd,vs,rel,dd⟩:=rJ I.hok e;refine iz d8 dd.typeIs f6 (PySem.F.args_dict_get_2 _ _) (meets_dict_get (bN X.prog X.w) a (rH ry) hd) ⟨_,dd.mapOf,h _ _ (I.tok _) ?_⟩;rw [l];exact (rel.val k).getD rfl
 ·subst ey;cases (show u=dm b from ry)
  obtain ⟨z,hd,xs,rel,dd⟩:=yC I.hok e;refine iz d8 dd.typeIs f6 (PySem.F.args_dict_get_2 _ _) (meetsH_dict_get (tupleKind (bN X.prog X.w)) a b hd) ⟨j3 hu,k,xs,pM I.hok eb,dd,h _ _ (I.tok _) ?_⟩;rw [l];exact (rel.val k).getD rfl
theorem Ql {Q:Value->Shared->Prop} (hu:A.units+1 < cLine) (I:Inv X pins σ H s) (g:pN H a y o) (ry:RelV y u) (rd:RelV d r) (h:∀ w' s',Inv X pins σ H s'->RelV (o.getD d) w'->Q w' s'):
  wpAny (model X.prog X.w) A (call (.builtin "dict.get") [.ref a,u,r]) Q E s:=by
 rcases g with ⟨kvs,k,e,ey,l⟩ | ⟨kvs,k,b,e,ey,eb,l⟩
 ·subst ey;obtain ⟨z,hd,vs,rel,dd⟩:=rJ I.hok e;refine iz d8 dd.typeIs f6 (PySem.F.args_dict_get_3 _ _ _) (meets_dict_get_default (bN X.prog X.w) a (rH ry) hd r) ⟨_,dd.mapOf,h _ _ (I.tok _) ?_⟩;rw [l];exact (rel.val k).getD rd
 ·subst ey;cases (show u=dm b from ry)
  obtain ⟨z,hd,xs,rel,dd⟩:=yC I.hok e;refine iz d8 dd.typeIs f6 (PySem.F.args_dict_get_3 _ _ _) (meetsH_dict_get_default (tupleKind (bN X.prog X.w)) a b hd r) ⟨j3 hu,k,xs,pM I.hok eb,dd,h _ _ (I.tok _) ?_⟩;rw [l];exact (rel.val k).getD rd
end
section
variable {X:Cx} {pins:List (Addr×Obj)} {σ:St} {H:Hp} {s:Shared} {a:Addr} {kvs:List (Key×V)} {A:Around} {E:Value->Shared->Prop}
theorem JF {Q:Value->Shared->Prop} (I:Inv X pins σ H s) (e:Rd H a (.dK kvs)) (h:∀ p s',H p=none->Inv X pins σ (upd H p (.dK kvs)) s'->Q (.ref p) s'):wpAny (model X.prog X.w) A (call (.type "dict") [.ref a]) Q E s:=by
 obtain ⟨z,hd,vs,rel,dd⟩:=rJ I.hok e;refine kt_call_dict hd dd (by rw [<- rel.length]; exact z) fun h' dd' hs=>?_;refine h _ _ (I.hok.fresh (ai _)) (I.laid (a:=s.heap.objs.size) (o:=.dK kvs) (t':=s.toks) (fun b q hq=>?_) (ai _) (Al z (beq_eq_false_iff_ne.mpr (i8 (a9 I.big))) rel dd'));exact (hs.2 b (a9 (aw hq))).trans (ah _ hq)
end
section
variable {X:Cx}
theorem GZ:bT X (.builtin "len") (fun xs H Q=>∃ a kvs,xs=[V.ref a]/\H a=some (.dK kvs)/\Q (.int kvs.length) H):=by
 intro pins s σ H xs us Q I r h;obtain ⟨a,kvs,rfl,ha,q⟩:=h;obtain ⟨u,rfl,ru⟩:=vals1 r;cases ru
 exact So I (.inl ha) fun t s' I'=>⟨.int kvs.length,H,I',⟨t,rfl⟩,q⟩
end
section
variable {prog:Program} {w:World} {A:Around} {R:Result->Shared->Prop} {s:Shared}
noncomputable def G0 (ifs:List Expr) (env:Env):Sem Bool:=forIn ifs true fun c r=>if r=true then do let ok <- isTrue c env (eval c env); pure (ForInStep.yield ok) else pure (ForInStep.yield r)
theorem Am {elt target iter:Expr} {ifs:List Expr} {scope:Scope} {pos:Pos} {it acc:Value} {env:Env} (I:Nat->Shared->Prop)
  (turn:∀ n s,I n s->wpAny (model prog w) A (pyNext it) (fun r s₁=>match r with
   | none=>R (.ok .next) s₁
   | some v=>wpAny (model prog w) A (letOwnedTupleGo target it v) (fun _ s₁'=>wpAny (model prog w) A (assign target env v) (fun _ s₂=>
     wpAny (model prog w) A (G0 ifs env) (fun ok s₃=>
      if ok=true then wpAny (model prog w) A (eval elt env) (fun x s₄=>
       wpAny (model prog w) A (call (.builtin "list.append") [acc,x]) (fun _ s₅=>∃ m,m < n/\I m s₅) (fun _ _=>False) s₄) (fun _ _=>False) s₃
      else ∃ m,m < n/\I m s₃) (fun _ _=>False) s₂) (fun _ _=>False) s₁') (fun _ _=>False) s₁) (fun _ _=>False) s)
  (n:Nat) (h:I n s):
  codeAny (model prog w) A (.compLoop (.ListComp elt [⟨target,iter,ifs,0⟩] scope pos) 0 it acc env) R s:=by
 refine codeAny_loop rfl I (fun n s hI=>?_) n h
 show wpAny _ A ((compTurn (.ListComp elt [⟨target,iter,ifs,0⟩] scope pos) 0 it acc env).onRaise (fun x=>do noteFrame x env; theTreesLotGoes x)) _ _ s
 refine wpAny_noted ?_;rw [compTurn_list];refine aa (wpAny_standAt (aa (f7 (turn n s hI) (fun r s₁ h₁=>?_) fun _ _ h'=>h'.elim)));cases r with
 | none=>exact ag h₁
 | some v=>
  refine aa (f7 h₁ (fun _ s₁' h₁'=>?_) fun _ _ h'=>h'.elim);refine aa (f7 h₁' (fun _ s₂ h₂=>aa (f7 h₂ (fun ok s₃ h₃=>?_) fun _ _ h'=>h'.elim)) fun _ _ h'=>h'.elim);cases ok with
  | false=>exact ag ⟨rfl,h₃⟩
  | true=>
   exact aa (aa (f7 h₃ (fun x s₄ h₄=>aa (f7 h₄ (fun _ s₅ h₅=>ag (ag ⟨rfl,h₅⟩)) fun _ _ h'=>h'.elim)) fun _ _ h'=>h'.elim))
end
noncomputable def fR (cells:List (Str×Addr)):List (Str×j0)->List (Str×Addr)->List (Str×Addr)
 | [],cs=>cs
 | (n,k) :: r,cs=>fR cells r (if (k == df)=true then (n,(cells.lookup n).getD 0) :: cs else cs)
theorem wW {scope:Scope} {env:Env} (h:∀ y∈scope.names,y.2=df->∃ c,env.cells.lookup y.1=some c):closureFor scope env=pure (fR env.cells scope.names []):=by
 have go:∀ (names:List (Str×j0)) (cs:List (Str×Addr)),(∀ y∈names,y.2=df->∃ c,env.cells.lookup y.1=some c)->
   (forIn names cs fun (x:Str×j0) (r:List (Str×Addr))=>match x with
    | (name,kind)=>if (kind == df)=true then (do let y <- cellOf env name; pure (ForInStep.yield ((name,y) :: r))) else (pure (ForInStep.yield r):Sem _))=(pure (fR env.cells names cs):Sem _):=by
  intro names
  induction names with
  | nil=>intro cs _; rfl
  | cons y r ih=>
   intro cs hy;obtain ⟨n,k⟩:=y;rw [List.forIn_cons];have ih':=fun cs'=>ih cs' fun y hm=>hy y (aq _ hm)
   by_cases hk:(k == df)=true
   ·obtain ⟨c,hc⟩:=hy (n,k) ak (by simpa using hk)
    have e1:cellOf env n=pure c:=by unfold cellOf; rw [show env.cells.lookup n=some c from hc]
    have e2:fR env.cells ((n,k) :: r) cs=fR env.cells r ((n,c) :: cs):=by
     show fR env.cells r (if (k == df)=true then _ else _)=_
     rw [if_pos hk,show env.cells.lookup n=some c from hc]; rfl
    rw [e2,<- ih' ((n,c) :: cs)];simp only [hk,if_true,e1,pure_bind]
   ·have e2:fR env.cells ((n,k) :: r) cs=fR env.cells r cs:=by
     show fR env.cells r (if (k == df)=true then _ else _)=_
     rw [if_neg hk]
    rw [e2,<- ih' cs];simp only [hk,if_false,pure_bind]
    try rfl
 have:=go scope.names [] h;unfold closureFor;simpa using this
theorem rK {cells:List (Str×Addr)} {x:Str} {c:Addr}:∀ (names:List (Str×j0)) (cs:List (Str×Addr)),(fR cells names cs).lookup x=some c->cs.lookup x=some c\/(∃ y∈names,y.1=x/\y.2=df/\c=(cells.lookup x).getD 0)
 | [],_,h=>.inl h
 | (n,k) :: r,cs,h=>by
  rcases rK r _ h with h1 | ⟨y,hy,e⟩
  ·by_cases hk:(k == df)=true
   ·rw [if_pos hk] at h1
    by_cases hx:x=n
    ·subst hx;simp only [bw,beq_self_eq_true] at h1;exact .inr ⟨(x,k),ak,rfl,by simpa using hk,(bg h1).symm⟩
    ·have:(x == n)=false:=by simpa using hx
     simp only [bw,this] at h1;exact .inl h1
   ·rw [if_neg hk] at h1;exact .inl h1
  ·exact .inr ⟨y,aq _ hy,e⟩
theorem tM {cells:List (Str×Addr)} {x:Str}:∀ (names:List (Str×j0)) (cs:List (Str×Addr)),((∃ c,cs.lookup x=some c)\/∃ y∈names,y.1=x/\y.2=df)->∃ c,(fR cells names cs).lookup x=some c
 | [],_,h=>by
  rcases h with h | ⟨y,hy,_⟩
  ·exact h
  ·cases hy
 | (n,k) :: r,cs,h=>by
  refine tM r _ ?_;rcases h with ⟨c,h⟩ | ⟨y,hy,e1,e2⟩
  ·left
   by_cases hk:(k == df)=true
   ·rw [if_pos hk]
    by_cases hx:x=n
    ·subst hx; simp [bw]
    ·have:(x == n)=false:=by simpa using hx
     exact ⟨c,by simp only [bw,this]; exact h⟩
   ·rw [if_neg hk]; exact ⟨c,h⟩
  ·rcases bc.mp hy with rfl | hy
   ·left;have hk:(k == df)=true:=by simpa using e2
    rw [if_pos hk];have hx:n=x:=e1;subst hx;simp [bw]
   ·exact .inr ⟨y,hy,e1,e2⟩
noncomputable def lX (os:Scope) (oN:List Str) (sc:Scope) (N:List Str) (js:List (Option Nat)):Bool:=
 (match sc.kind with | .function=>true | _=>false) && sc.names.all (fun y=>match y.2 with
  | .cell=>(match sc.names.lookup y.1 with | some .cell=>true | _=>false)
  | _=>true) &&
 sc.names.all (fun y=>match y.2 with
  | .local=>(match sc.names.lookup y.1 with | some .local=>true | _=>false)
  | .free=>(match sc.names.lookup y.1,os.names.lookup y.1 with | some .free,some .cell=>true | some .free,some .free=>true | _,_=>false)
  | _=>true) &&
 js.length == N.length && (js.zip N).all (fun p=>match p.1 with
  | none=>true
  | some j=>(match oN[j]? with | some x=>decide (x=p.2) | none=>false) && (match sc.names.lookup p.2 with | some .free=>true | _=>false))
structure Qm (os:Scope) (oN:List Str) (sc:Scope) (N:List Str) (js:List (Option Nat)):Prop where
 kind:sc.kind=.function
 own:∀ y∈sc.names,y.2=.cell->sc.names.lookup y.1=some .cell
 nm:∀ y∈sc.names,y.2=.local->sc.names.lookup y.1=some .local
 fr:∀ y∈sc.names,y.2=.free->os.names.lookup y.1=some .cell\/os.names.lookup y.1=some .free
 len:js.length=N.length
 cap:∀ (i j:Nat),js[i]?=some (some j)->∃ x,N[i]?=some x/\oN[j]?=some x/\sc.names.lookup x=some .free
theorem Ha {os:Scope} {oN:List Str} {sc:Scope} {N:List Str} {js:List (Option Nat)} (h:lX os oN sc N js=true):Qm os oN sc N js:=by
 unfold lX at h;simp only [cm] at h;obtain ⟨⟨⟨⟨h1,h2⟩,h3⟩,h4⟩,h5⟩:=h;refine ⟨?_,fun y hy e=>?_,fun y hy e=>?_,fun y hy e=>?_,by simpa using h4,fun i j e=>?_⟩
 ·cases hk:sc.kind <;> rw [hk] at h1 <;> first | rfl | exact absurd h1 bu
 ·have:=cg.mp h2 y hy;rw [e] at this;dsimp only at this;cases hl:sc.names.lookup y.1 with
  | none=>rw [hl] at this; exact absurd this bu
  | some k=>cases k <;> rw [hl] at this <;> first | rfl | exact absurd this bu
 ·have:=cg.mp h3 y hy;rw [e] at this;dsimp only at this;cases hl:sc.names.lookup y.1 with
  | none=>rw [hl] at this; exact absurd this bu
  | some k=>cases k <;> rw [hl] at this <;> first | rfl | exact absurd this bu
 ·have:=cg.mp h3 y hy;rw [e] at this;dsimp only at this;cases hl:sc.names.lookup y.1 with
  | none=>rw [hl] at this; exact absurd this bu
  | some k=>
   rw [hl] at this;cases ho:os.names.lookup y.1 with
   | none=>rw [ho] at this; cases k <;> exact absurd this bu
   | some k'=>rw [ho] at this; cases k <;> cases k' <;> first | exact .inl rfl | exact .inr rfl | exact absurd this bu
 ·have hlen:js.length=N.length:=by simpa using h4
  obtain ⟨hi,ej⟩:=ab.mp e;have hN:i < N.length:=by omega
  have hz:(js.zip N)[i]?=some (some j,N[i]):=by
   rw [List.getElem?_zip_eq_some];exact ⟨e,by simp [hN]⟩
  have:=cg.mp h5 _ (cy hz);simp only [cm] at this;obtain ⟨t1,t2⟩:=this;refine ⟨N[i],by simp [hN],?_,?_⟩
  ·cases ho:oN[j]? with
   | none=>rw [ho] at t1; exact absurd t1 bu
   | some x=>rw [ho] at t1; rw [of_decide_eq_true t1]
  ·cases hl:sc.names.lookup N[i] with
   | none=>rw [hl] at t2; exact absurd t2 bu
   | some k=>rw [hl] at t2; cases k <;> first | rfl | exact absurd t2 bu
theorem cP {κ:Type} {x:Str} {k:κ}:∀ {l:List (Str×κ)},l.lookup x=some k->(x,k)∈l
 | [],h=>by simp at h
 | (n,v) :: r,h=>by
  by_cases hx:x=n
  ·subst hx;simp only [bw,beq_self_eq_true] at h;cases h
   exact ak
  ·have:(x == n)=false:=by simpa using hx
   simp only [bw,this] at h;exact aq _ (cP h)
theorem jN {sc:Scope} {env:Env}:∀ {names:List (Str×j0)} {x:Str} {k:j0},(names.map fun (n,k)=>if (k == df && env.scope.kind == .function && env.kindOf n == some .cell) then (n,lu) else (n,k)).lookup x=some k->
  names.lookup x=some k\/(k=.cell/\names.lookup x=some .free)
 | [],_,_,h=>by simp at h
 | (n,q) :: r,x,k,h=>by
  have ih:=@jN sc env r x k
  by_cases hc:(q == df && env.scope.kind == .function && env.kindOf n == some .cell)=true
  ·simp only [a7] at h;rw [if_pos hc] at h;have hq:q=.free:=by
    simp only [cm] at hc;simpa using hc.1.1
   by_cases hx:x=n
   ·subst hx;simp only [bw,beq_self_eq_true] at h ⊢;exact .inr ⟨(bg h).symm,by rw [hq]⟩
   ·have e:(x == n)=false:=by simpa using hx
    simp only [bw,e] at h ⊢;exact ih h
  ·simp only [a7] at h;rw [if_neg hc] at h
   by_cases hx:x=n
   ·subst hx;simp only [bw,beq_self_eq_true] at h ⊢;exact .inl h
   ·have e:(x == n)=false:=by simpa using hx
    simp only [bw,e] at h ⊢;exact ih h
theorem nH {env:Env}:∀ {names:List (Str×j0)} {x:Str},names.lookup x=some .free->
  (names.map fun (n,k)=>if (k == df && env.scope.kind == .function && env.kindOf n == some .cell) then (n,lu) else (n,k)).lookup x=some .free\/
  (names.map fun (n,k)=>if (k == df && env.scope.kind == .function && env.kindOf n == some .cell) then (n,lu) else (n,k)).lookup x=some .cell
 | [],_,h=>by simp at h
 | (n,q) :: r,x,h=>by
  have ih:=@nH env r x
  by_cases hc:(q == df && env.scope.kind == .function && env.kindOf n == some .cell)=true
  ·simp only [a7];rw [if_pos hc]
   by_cases hx:x=n
   ·subst hx;simp only [bw,beq_self_eq_true]
    first | exact .inr rfl | exact .inr trivial
   ·have e:(x == n)=false:=by simpa using hx
    simp only [bw,e] at h ⊢;exact ih h
  ·simp only [a7];rw [if_neg hc]
   by_cases hx:x=n
   ·subst hx;simp only [bw,beq_self_eq_true] at h ⊢;exact .inl h
   ·have e:(x == n)=false:=by simpa using hx
    simp only [bw,e] at h ⊢;exact ih h
theorem bI:∀ (names:List (Str×j0)) (n:Nat) (acc:List (Str×Addr)),d0 n names acc=d0 n names []++acc
 | [],_,_=>rfl
 | (x,k) :: r,n,acc=>by
  unfold d0;split
  ·rw [bI r _ ((x,n) :: acc),bI r _ [(x,n)],List.append_assoc];rfl
  ·exact bI r n acc
theorem iQ {x:Str} {c:Addr}:∀ {names:List (Str×j0)} {n:Nat},(x,c)∈d0 n names []->(x,lu)∈names
 | [],_,h=>by cases h
 | (y,k) :: r,n,h=>by
  unfold d0 at h;split at h
  ·rename_i hk;rw [bI,ba] at h;rcases h with h | h
   ·exact aq _ (iQ h)
   ·have e:=bj.mp h;have ex:x=y:=congrArg Prod.fst e;have ek:k=.cell:=by simpa using hk
    rw [ex,ek];exact ak
  ·exact aq _ (iQ h)
theorem rN {α:Type} {x:Str} {c:α}:∀ {l:List (Str×α)},(x,c)∈l->∃ d,l.lookup x=some d
 | (y,d) :: r,h=>by
  by_cases e:x=y
  ·subst e; exact ⟨d,by simp [bw]⟩
  ·have z:(x == y)=false:=by simpa using e
   rcases bc.mp h with q | q
   ·exact absurd (congrArg Prod.fst q) e
   ·obtain ⟨d',hd⟩:=rN q;exact ⟨d',by simp only [bw,z]; exact hd⟩
theorem eU {x:Str}:∀ {names:List (Str×j0)} {n:Nat},(x,lu)∈names->∃ c,(d0 n names []).lookup x=some c
 | (y,k) :: r,n,h=>by
  have go:∃ c,(x,c)∈d0 n ((y,k) :: r) []:=by
   rcases bc.mp h with q | q
   ·have ex:x=y:=congrArg Prod.fst q;have ek:k=.cell:=(congrArg Prod.snd q).symm;refine ⟨n,?_⟩;unfold d0;rw [if_pos (by rw [ek]; rfl),bI,ex];exact ao _ ak
   ·unfold d0;split
    ·obtain ⟨c,hc⟩:=eU (n:=n+1) q;rw [bI];exact ⟨c,fc _ (mem_of_lookup hc)⟩
    ·obtain ⟨c,hc⟩:=eU (n:=n) q;exact ⟨c,mem_of_lookup hc⟩
  obtain ⟨c,hc⟩:=go;exact rN hc
theorem nI {α:Type} {x:Str}:∀ {l r:List (Str×α)},(l++r).lookup x=(l.lookup x).or (r.lookup x)
 | [],_=>by simp
 | (y,d) :: l,r=>by
  have ih:=nI (x:=x) (l:=l) (r:=r);cases e:x == y with
  | true=>simp [bw,e]
  | false=>simp only [List.cons_append,bw,e]; exact ih
theorem pP {M:Model} {A:Around} {E:Value->Shared->Prop} {s:Shared} {scope:Scope} {globals:Addr} {closure:List (Str×Addr)} {qual:Str} {func:Option Addr} {code:Value} {outer:Env} {builtins:Addr} {Q:Env->Shared->Prop}
  (hQ:Q (newEnv scope s.heap.objs.size globals (d0 (s.heap.objs.size+1) scope.names closure) qual func code (some outer) builtins) { s with heap:=pushCells (s.heap.push { cls:=.type "dict",data:=.dict #[] }) scope.names }):
  wpAny M A (newFunctionEnv scope globals closure [] qual func code (some outer) builtins) Q E s:=by
 simp only [newFunctionEnv,iy,if_true];refine aa (wpAny_alloc ?_);refine aa (wpAny_layCells _ (fun name kind cells=>by cases hkc:kind == lu <;> simp [hkc]) _ _ _ _ ?_);rw [show ({ s with heap:=s.heap.push { cls:=.type "dict",data:=.dict #[] } }:Shared).heap.objs.size=s.heap.objs.size+1 from jz ..]
 rw [List.forIn_nil];exact aa (ag (ag hQ))
noncomputable def Cx.comp (X:Cx) (sc:Scope) (N:List Str) (C:Addr) (fp:List Addr) (s₀:Shared) (H₀:Hp):Cx:=
 { X with N:=N,s₀:=s₀,H₀:=H₀,env:=compEnvC sc (d0 (C+1) sc.names (fR X.env.cells sc.names [])) C X.env,outer:=X.stack,ex:=fp,fn:=fun x=>(match sc.names.lookup x with | some .cell=>true | _=>false),pn:=[],xe:=fun _ _=>False }
noncomputable def E2:St->Nat->Option V
 | [],_=>none
 | x :: _,0=>x
 | _ :: r,n+1=>E2 r n
theorem tN:∀ {σ:St} {i:Nat} {v:V},E2 σ i=some v->σ[i]?=some (some v)
 | [],_,_,h=>by cases h
 | x :: _,0,v,h=>by
  have h':x=some v:=h;simp [h']
 | _ :: r,n+1,v,h=>by
  rw [ft];exact tN (σ:=r) (i:=n) h
noncomputable def iR (js:List (Option Nat)) (σ:St):St:=js.map fun o=>match o with
 | none=>none
 | some j=>E2 σ j
theorem N8 {js:List (Option Nat)} {σ:St} {i:Nat} {v:V} (h:(iR js σ)[i]?=some (some v)):∃ j,js[i]?=some (some j)/\σ[j]?=some (some v):=by
 unfold iR at h;rw [aj] at h;cases e:js[i]? with
 | none=>rw [e] at h; cases h
 | some o=>
  rw [e] at h;cases o with
  | none=>cases h
  | some j=>exact ⟨j,rfl,tN (bg h)⟩
noncomputable def PTs (X:Cx) (ifs:List Expr) (t:TT):Prop:=
 ∀ (pins:List (Addr×Obj)) (s:Shared) (σ:St) (H:Hp) (Q:Bool->Hp->Prop),Inv X pins σ H s->t σ H Q->wpAny (model X.prog X.w) X.A (G0 ifs X.env) (TP X pins σ Q) X.xe s
noncomputable def Sq:TT:=fun _ H Q=>Q true H
theorem N9 {X:Cx}:PTs X [] Sq:=fun _ _ _ H _ I h=>wpAny_tests_nil ⟨H,I,h⟩
theorem N' {X:Cx} {c:Expr} {t:TT} (h:PT X c t):PTs X [c] t:=fun pins s σ H Q I q=>wpAny_tests_one (h pins s σ H Q I q)
noncomputable def Pf (js:List (Option Nat)) (g:TG) (tt:TT) (te:TE) (σ:St) (acc:Addr) (x:V) (H:Hp) (N:Hp->Prop):Prop:=g x (iR js σ) H fun σ2 H4=>tt σ2 H4 fun b H5=>
   if b=true then te σ2 H5 fun v H6=>∃ ys,H6 acc=some (.lst ys)/\ys.length < au/\N (upd H6 acc (.lst (ys++[v]))) else N H5
noncomputable def G1 (js:List (Option Nat)) (wi:TI) (g:TG) (tt:TT) (te:TE):TE:=fun σ H Q=>wi σ H fun J H1=>∀ acc,H1 acc=none->
 ∃ W:Nat->Nat->Hp->Prop,(∃ m,W 0 m (upd H1 acc (.lst [])))/\∀ i m H2,W i m H2->
  (J.stop i H2/\Q (.ref acc) H2)\/(J.go i H2/\∃ N:Hp->Prop,(∀ H',N H'->∃ m',m' < m/\W (i+1) m' H')/\∀ x H3,J.yld i H2 x H3->Pf js g tt te σ acc x H3 N)
section
variable {X:Cx} {elt iter tg:Expr} {ifs:List Expr} {sc:Scope} {pos:Pos} {os:Scope} {oN N:List Str} {js:List (Option Nat)} {wi:TI} {g:TG} {tt:TT} {te:TE}
structure Off (X:Cx) (pins:List (Addr×Obj)) (H:Hp) (C:Addr) (s:Shared):Prop where
 ns:∃ m,s.heap.Ns C m
 none:H C=none
 loc:C≠X.env.locals
 new:X.s₀.heap.objs.size<=C
 cells:∀ x c,X.env.cells.lookup x=some c->c≠C
 pins:∀ p∈X.pn++pins,p.1≠C
theorem Off.go {pins:List (Addr×Obj)} {σ:St} {H:Hp} {C:Addr} {s:Shared} {h':Heap} (o:Off X pins H C s) (I:Inv X pins σ H s) (hs:gd C s.heap h'):Inv X pins σ H { s with heap:=h' }:=
 I.turned (t':=s.toks) (fun b ob hb e=>(hs.2 b hb).trans e) o.none o.loc (.inr o.new) o.cells o.pins
theorem yD {use:Option (Value->Sem Unit)} {Q0:Value->Shared->Prop} (hc:X.calm=true) (hes:X.env.scope=os) (heN:X.N=oN) (ok:lX os oN sc N js=true) (hi:PI X tg iter wi)
  (hg:∀ C fp s₀ H₀,PG (X.comp sc N C fp s₀ H₀) tg g) (ht:∀ C fp s₀ H₀,PTs (X.comp sc N C fp s₀ H₀) ifs tt) (he:∀ C fp s₀ H₀,PE (X.comp sc N C fp s₀ H₀) elt te)
  {pins:List (Addr×Obj)} {s:Shared} {σ:St} {H:Hp} {Q:VK} (I:Inv X pins σ H s) (h:G1 js wi g tt te σ H Q)
  (hfin:∀ acc C s6 H6,Inv X pins σ H6 s6->Off X pins H6 C s6->Q (.ref acc) H6->compPost (model X.prog X.w) X.A X.xe use Q0 (.ref acc) C (.ok .next) s6)
  (hs:∀ x,ia iter X.env x=pure x:=by intro _; rfl):
  wpAny (model X.prog X.w) X.A (comprehension (.ListComp elt [⟨tg,iter,ifs,0⟩] sc pos) sc X.env (firstIterPos [⟨tg,iter,ifs,0⟩] pos) (newList []) false (eval iter X.env) use) Q0 X.xe s:=by
 have S:=Ha ok;subst hes heN;have hcl:∀ y∈sc.names,y.2=df->∃ c,X.env.cells.lookup y.1=some c:=fun y hy e=>I.ok.has y.1 (S.fr y hy e);have clsub:∀ x c,(fR X.env.cells sc.names []).lookup x=some c->X.env.cells.lookup x=some c:=fun x c e=>by
  rcases rK _ _ e with z | ⟨y,hy,e1,e2,e3⟩
  ·cases z
  ·obtain ⟨d,hd⟩:=hcl y hy e2;rw [e1] at hd;rw [hd] at e3;rw [hd,e3]; rfl
 refine wpAny_comprehension_free (use:=use) rfl hs (wW hcl) S.kind S.nm (thn (hi pins s σ H _ I h) fun v s1 h1=>thn h1 fun itv s2 h2=>?_);obtain ⟨it,fp,tn,J,H2,e,I2,T,st2,f2,q⟩:=h2;subst e;obtain ⟨W,⟨m0,w0⟩,turn⟩:=q s2.heap.objs.size I2.fresh;refine fm (pP ?_);have I3:Inv X pins σ (upd H2 s2.heap.objs.size (.lst [])) { s2 with heap:=s2.heap.push { cls:=.type "list",data:=.seq ([]:List Value).toArray },toks:=s2.toks }:=I2.lnew (its:=[]) (ys:=[]) .nil (b8 _);generalize hH3:upd H2 s2.heap.objs.size (HO.lst [])=H3 at w0 I3;generalize hs3:({ s2 with heap:=s2.heap.push { cls:=.type "list",data:=.seq ([]:List Value).toArray },toks:=s2.toks }:Shared)=s3 at I3;have es3:({ s2 with heap:=s2.heap.push { cls:=.type "list",dict:=none,data:=.seq ([]:List Value).toArray } }:Shared)=s3:=hs3;have eh3:s2.heap.push { cls:=.type "list",dict:=none,data:=.seq ([]:List Value).toArray }=s3.heap:=by rw [<- es3]
 (try rw [eh3])
 have hC:∀ b o,s3.heap.get? b=some o->b≠s3.heap.objs.size:=fun b o e=>a9 (aw e);have old:∀ b o,s3.heap.get? b=some o->(pushCells (s3.heap.push { cls:=.type "dict",data:=.dict #[] }) sc.names).get? b=some o:=fun b o e=>pushCells_keeps _ _ b o (ah _ e);have hns₁:(pushCells (s3.heap.push { cls:=.type "dict",data:=.dict #[] }) sc.names).Ns s3.heap.objs.size (fun _=>none):=(Heap.Ns.new s3.heap (.type "dict")).keeps (pushCells_keeps _ _);have cok:=cellsFrom_ok sc.names (s3.heap.push { cls:=.type "dict",data:=.dict #[] }) (s3.heap.objs.size+1) [] ⟨fun _ _ hm=>(nomatch hm),l8⟩ (by rw [jz]; exact ai _);rw [jz] at cok;generalize pushCells (s3.heap.push { cls:=.type "dict",data:=.dict #[] }) sc.names=h₁ at old hns₁ cok ⊢;have cl1:∀ {x c},(d0 (s3.heap.objs.size+1) sc.names (fR X.env.cells sc.names [])).lookup x=some c->((x,c)∈d0 (s3.heap.objs.size+1) sc.names []/\h₁.IsCell c none/\s3.heap.objs.size+1<=c)\/(X.env.cells.lookup x=some c/\c < s3.heap.objs.size):=fun {x c} e=>by
  rw [bI,nI] at e;cases eo:(d0 (s3.heap.objs.size+1) sc.names []).lookup x with
  | some d=>
   rw [eo] at e;cases e
   have:=mem_of_lookup eo;exact .inl ⟨this,cok.empty x c this⟩
  | none=>
   rw [eo] at e;have e:=clsub x c e;obtain ⟨v,z⟩:=I3.cell x c e;exact .inr ⟨e,z.lt⟩
 have cl2:∀ {x c},sc.names.lookup x=some .free->(fR X.env.cells sc.names []).lookup x=some c->(d0 (s3.heap.objs.size+1) sc.names (fR X.env.cells sc.names [])).lookup x=some c:=fun {x c} hf e=>by
  rw [bI,nI];cases eo:(d0 (s3.heap.objs.size+1) sc.names []).lookup x with
  | some d=>
   have:=S.own _ (iQ (mem_of_lookup eo)) rfl;rw [hf] at this;cases this
  | none=>exact e
 have st3:tn 0 s3.heap:=T.keep 0 _ _ st2 fun b hb o e=>by
  rw [<- eh3]; exact ah _ e
 have fobj:∀ b∈fp,∃ o,s3.heap.get? b=some o/\∀ v,o.data≠.cell v:=T.obj 0 _ st3;have f3:∀ b∈fp,BK X pins H3 b:=fun b hb=>by
  obtain ⟨o,ho,_⟩:=T.obj 0 _ st2 b hb;refine ⟨?_,(f2 b hb).2⟩;rw [<- hH3,bG (a9 (aw ho))];exact (f2 b hb).1
 -- the block's context
 have Xok:(X.comp sc N s3.heap.objs.size fp s3 H3).Ok:=by
  refine ⟨I.ok.mod,S.kind,I.ok.glob,I.ok.blt,ai _,fun x y c e1 e2=>?_,fun x hx=>?_,fun x c z e=>?_,I.ok.hd,I.ok.frames,.inl rfl,fun b hb=>?_,I3.bs,
   c9 I.ok.bsz I3.sz,fun b o e hb=>?_,fun b hb hf=>?_,I3.stack,I3.stkFree⟩
  ·rcases cl1 e1 with ⟨m1,_,g1⟩ | ⟨z1,g1⟩ <;> rcases cl1 e2 with ⟨m2,_,g2⟩ | ⟨z2,g2⟩
   ·exact name_of_addr cok.apart m1 m2
   ·exact absurd (bh g2 (Nat.le_of_succ_le g1)) (fj _)
   ·exact absurd (bh g1 (Nat.le_of_succ_le g2)) (fj _)
   ·exact I.ok.inj x y c z1 z2
  ·have fr:sc.names.lookup x=some .free->∃ c,(d0 (s3.heap.objs.size+1) sc.names (fR X.env.cells sc.names [])).lookup x=some c:=fun hf=>
    let ⟨c,hc⟩:=tM (cells:=X.env.cells) (x:=x) sc.names [] (.inr ⟨_,cP hf,rfl,rfl⟩)
    ⟨c,cl2 hf hc⟩
   have fin:∀ {k},(relabel sc X.env).names.lookup x=some k->(k=.cell\/k=.free)->∃ c,(d0 (s3.heap.objs.size+1) sc.names (fR X.env.cells sc.names [])).lookup x=some c:=fun {k} e hk=>by
    rcases jN (sc:=sc) e with z | ⟨_,z⟩
    ·rcases hk with rfl | rfl
     ·obtain ⟨c,hc⟩:=eU (n:=s3.heap.objs.size+1) (cP z);exact ⟨c,by rw [bI,nI,hc]; rfl⟩
     ·exact fr z
    ·exact fr z
   rcases hx with hx | hx
   ·exact fin hx (.inl rfl)
   ·exact fin hx (.inr rfl)
  ·have z:sc.names.lookup x=some .cell:=by
    have z:(match sc.names.lookup x with | some .cell=>true | _=>false)=true:=z
    split at z
    ·assumption
    ·cases z
   have e:(d0 (s3.heap.objs.size+1) sc.names (fR X.env.cells sc.names [])).lookup x=some c:=e;obtain ⟨d,hd⟩:=eU (n:=s3.heap.objs.size+1) (cP z);rw [bI,nI,hd] at e;cases e
   exact Nat.le_of_succ_le (cok.empty x c (mem_of_lookup hd)).2
  ·obtain ⟨o,ho,_⟩:=fobj b hb;refine ⟨hC b o ho,fun x c e=>?_⟩;rcases cl1 e with ⟨_,_,g1⟩ | ⟨z1,_⟩
   ·exact Nat.ne_of_gt (bh (aw ho) (Nat.le_of_succ_le g1))
   ·exact (f3 b hb).2.2.2.2.1 x c z1
  ·rcases (f3 b hb).2.2.2.1 with z | z
   ·exact I.ok.noex b o e z
   ·exact absurd (bh (aw e) (c9 I.ok.bsz z)) (fj _)
  ·rcases bc.mp (I3.stkSub b hf) with z | z
   ·exact (f3 b hb).2.1 z
   ·exact (f3 b hb).2.2.1 z
 -- what the block takes from around it
 have capt:∀ (i:Nat) (x:Str) (v:V),N[i]?=some x->(iR js σ)[i]?=some (some v)->∃ u c o,RelV v u/\((compEnvC sc (d0 (s3.heap.objs.size+1) sc.names (fR X.env.cells sc.names [])) s3.heap.objs.size X.env).kindOf x=some .cell\/(compEnvC sc (d0 (s3.heap.objs.size+1) sc.names (fR X.env.cells sc.names [])) s3.heap.objs.size X.env).kindOf x=some .free)/\
   (d0 (s3.heap.objs.size+1) sc.names (fR X.env.cells sc.names [])).lookup x=some c/\s3.heap.get? c=some o/\o.data=.cell (some u)/\H3 c=none/\c∉fp:=by
  intro i x v hN hv;obtain ⟨j,hj,hσ⟩:=N8 hv;obtain ⟨x',hx',ho,hf⟩:=S.cap i j hj;rw [hN] at hx'; cases hx';obtain ⟨m,hn,hl⟩:=I3.loc;have hvis:Vis X.env.scope x:=by
   rcases S.fr _ (cP hf) rfl with z | z
   ·exact .inr (.inl z)
   ·exact .inr (.inr z)
  obtain ⟨u,r,l⟩:=hl j x v ho hσ hvis;obtain ⟨c,hcl'⟩:=tM (cells:=X.env.cells) (x:=x) sc.names [] (.inr ⟨_,cP hf,rfl,rfl⟩);have hcx:=clsub x c hcl';have hcell:s3.heap.IsCell c (some u):=by
   rcases l with ⟨k,_⟩ | ⟨_,c',e,z⟩
   ·exfalso;rcases S.fr _ (cP hf) rfl with z | z
    ·have k':X.env.scope.names.lookup x=some .local:=k;rw [z] at k'; cases k'
    ·have k':X.env.scope.names.lookup x=some .local:=k;rw [z] at k'; cases k'
   ·rw [hcx] at e; cases e; exact z
  obtain ⟨o,ho',hd⟩:=hcell;refine ⟨u,c,o,r,?_,cl2 hf hcl',ho',hd,I3.freeC x c hcx,fun hb=>(f3 c hb).2.2.2.2.1 x c hcx rfl⟩;exact (nH (env:=X.env) hf).symm
 -- at any state of the block,its names as at its start
 have recap:∀ {pins':List (Addr×Obj)} {σ8:St} {H8:Hp} {s8:Shared},Inv (X.comp sc N s3.heap.objs.size fp s3 H3) pins' σ8 H8 s8->Inv (X.comp sc N s3.heap.objs.size fp s3 H3) [] (iR js σ) H8 s8:=fun {pins' σ8 H8 s8} I8=>by
  refine ⟨I8.ok,I8.os,I8.bare,I8.base,?_,I8.cell,I8.free,I8.freeC,fun p hp=>by simp [Cx.comp] at hp,I8.hok,?_⟩
  ·obtain ⟨m,hn,_⟩:=I8.loc;refine ⟨m,hn,fun i x v hN hv _=>?_⟩;obtain ⟨u,c,o,r,k,hl,ho,hd,hn3,hnf⟩:=capt i x v hN hv;refine ⟨u,r,.inr ⟨k,c,hl,?_⟩⟩;obtain ⟨sl,e⟩:=I8.base.any ho hn3 hnf;exact ⟨_,e,hd⟩
  ·show (iR js σ).length=N.length
   unfold iR;rw [ae,S.len]
 have I4:Inv (X.comp sc N s3.heap.objs.size fp s3 H3) [] (iR js σ) H3 { s3 with heap:=h₁ }:=by
  refine ⟨Xok,rfl,I3.bare,Un.kept old,⟨_,hns₁,fun i x v hN hv _=>?_⟩,fun x c e=>?_,I3.fresh,fun x c e=>?_,fun p hp=>by simp [Cx.comp] at hp,I3.hok.kept old,?_⟩
  ·obtain ⟨u,c,o,r,k,hl,ho,hd,_,_⟩:=capt i x v hN hv;exact ⟨u,r,.inr ⟨k,c,hl,o,old c o ho,hd⟩⟩
  ·rcases cl1 e with ⟨_,g1,_⟩ | ⟨z1,_⟩
   ·exact ⟨_,g1⟩
   ·obtain ⟨v,o,ho,hd⟩:=I3.cell x c z1;exact ⟨v,o,old c o ho,hd⟩
  ·rcases cl1 e with ⟨_,_,g1⟩ | ⟨z1,_⟩
   ·exact I3.hok.fresh (by omega)
   ·exact I3.freeC x c z1
  ·show (iR js σ).length=N.length
   unfold iR;rw [ae,S.len]
 have st4:tn 0 h₁:=T.keep 0 _ _ st3 fun b hb o e=>old b o e;have fpok:∀ {H':Hp},(∀ b∈fp,H' b=none)->∀ b∈fp,BK (X.comp sc N s3.heap.objs.size fp s3 H3) [] H' b:=fun {H'} hn b hb=>
  ⟨hn b hb,(Xok.exf b hb).1,Xok.exfs b hb,.inl hb,(Xok.exf b hb).2,fun p hp=>by simp [Cx.comp] at hp⟩
 have fin:∀ (s6:Shared) (H6:Hp),Inv (X.comp sc N s3.heap.objs.size fp s3 H3) [] (iR js σ) H6 s6->Q (.ref s2.heap.objs.size) H6->compPost (model X.prog X.w) X.A X.xe use Q0 (.ref s2.heap.objs.size) s3.heap.objs.size (.ok .next) s6:=fun s6 H6 I6 q6=>by
  have I7:Inv X pins σ H6 s6:=I3.call' (ch:=fp) I6.os I6.base I6.hok I6.bare fun b hb=>⟨(f3 b hb).2.2.2.1,(f3 b hb).2.1,(f3 b hb).2.2.2.2.1,(f3 b hb).2.2.2.2.2⟩;refine hfin _ _ _ _ I7 ⟨let ⟨m,hn,_⟩:=I6.loc; ⟨m,hn⟩,I6.free,Nat.ne_of_gt I3.lt,I3.sz,fun x c e=>?_,fun p hp=>?_⟩ q6
  ·obtain ⟨v,z⟩:=I3.cell x c e;exact a9 z.lt
  ·exact a9 (aw (I3.pin p hp).1)
 have loop:codeAny (model X.prog X.w) X.A (.compLoop (.ListComp elt [⟨tg,iter,ifs,0⟩] sc pos) 0 (.ref it) (.ref s2.heap.objs.size) (compEnvC sc (d0 (s3.heap.objs.size+1) sc.names (fR X.env.cells sc.names [])) s3.heap.objs.size X.env))
   (compPost (model X.prog X.w) X.A X.xe use Q0 (.ref s2.heap.objs.size) s3.heap.objs.size) { s3 with heap:=h₁ }:=by
  refine Am (fun n s'=>∃ i H',Inv (X.comp sc N s3.heap.objs.size fp s3 H3) [] (iR js σ) H' s'/\tn i s'.heap/\(∀ b∈fp,H' b=none)/\W i n H') ?_ m0 ⟨0,H3,I4,st4,fun b hb=>(f3 b hb).1,w0⟩;rintro n s5 ⟨i,H5,I5,st5,fr5,w5⟩;rcases turn i n H5 w5 with ⟨stop,qn⟩ | ⟨go,Nn,hN,step⟩
  ·refine thn (T.done (X.comp sc N s3.heap.objs.size fp s3 H3) rfl rfl rfl hc i [] s5 (iR js σ) H5 (fun _ _=>False) I5 (fpok fr5) st5 stop) fun r s6 ⟨hr,I6⟩=>?_;subst hr;exact fin s6 H5 I6 qn
  ·refine thn (T.item (X.comp sc N s3.heap.objs.size fp s3 H3) rfl rfl rfl hc i [] s5 (iR js σ) H5 (fun _ _=>False) I5 (fpok fr5) st5 go) fun r s6 ⟨u,hr,h6⟩=>?_;subst hr;refine thn h6 fun _ s7 hz=>?_;obtain ⟨x,H7,I7,r7,y7,st7,fr7⟩:=hz;have I7':=I7.pinned (fpok fr7) (T.obj _ _ st7);refine thn (hg _ _ _ _ _ s7 _ H7 x u _ I7' r7 (step x H7 y7)) fun _ s8 ⟨σ8,H8,I8,q8⟩=>?_;refine thn (ht _ _ _ _ _ s8 σ8 H8 _ I8 q8) fun b s9 ⟨H9,I9,q9⟩=>?_;have again:∀ {σ':St} {H':Hp} {s':Shared},Inv (X.comp sc N s3.heap.objs.size fp s3 H3) ([]++tF fp s7.heap) σ' H' s'->Nn H'->∃ m,m < n/\∃ i H',Inv (X.comp sc N s3.heap.objs.size fp s3 H3) [] (iR js σ) H' s'/\tn i s'.heap/\(∀ b∈fp,H' b=none)/\W i m H':=fun {σ' H' s'} I' n'=>by
    obtain ⟨m',hm,w'⟩:=hN H' n';refine ⟨m',hm,i+1,H',recap I',T.keep _ _ _ st7 fun b hb o e=>(I'.pin (b,o) (ao _ (ao _ (iP hb e)))).1,fun b hb=>?_,w'⟩;obtain ⟨o,e,d⟩:=T.obj _ _ st7 b hb;exact (I'.pin (b,o) (ao _ (ao _ (iP hb e)))).2.1
   cases b with
   | false=>exact again I9 q9
   | true=>
    refine thn (he _ _ _ _ _ s9 σ8 H9 _ I9 q9) fun u' s10 ⟨v,H10,I10,rv,ys,hacc,hz,n10⟩=>?_;refine thn (xZ (X:=X.comp sc N s3.heap.objs.size fp s3 H3) _ s10 σ8 H10 (.ref s2.heap.objs.size) [v] (.ref s2.heap.objs.size) [u'] (fun _ H'=>Nn H') I10 rfl (.cons rv .nil) ⟨_,ys,v,rfl,rfl,hacc,hz,n10⟩) fun _ s11 ⟨_,H11,I11,_,n11⟩=>?_;exact again I11 n11
 exact codeAny_compStart_list loop (T.self X.A 0 _ _ _ st4 loop)
theorem Na (hc:X.calm=true) (hes:X.env.scope=os) (heN:X.N=oN) (ok:lX os oN sc N js=true) (hi:PI X tg iter wi)
  (hg:∀ C fp s₀ H₀,PG (X.comp sc N C fp s₀ H₀) tg g) (ht:∀ C fp s₀ H₀,PTs (X.comp sc N C fp s₀ H₀) ifs tt) (he:∀ C fp s₀ H₀,PE (X.comp sc N C fp s₀ H₀) elt te)
  (hs:∀ x,ia iter X.env x=pure x:=by intro _; rfl):PE X (.ListComp elt [⟨tg,iter,ifs,0⟩] sc pos) (G1 js wi g tt te):=by
 intro pins s σ H Q I h;rw [eval_ListComp];refine yD (use:=none) hc hes heN ok hi hg ht he I h (fun acc C s6 H6 I6 o q=>?_) hs;exact ⟨o.ns.choose,o.ns.choose_spec,fun h' hs'=>⟨.ref acc,H6,o.go I6 hs',rfl,q⟩⟩
theorem E3 {i:Nat} {x:Str} {pos' spos:Pos} (hN:X.N.Nodup) (hx':X.N[i]?=some x) (hloc:X.env.scope.names.lookup x=some .local) (hc:X.calm=true) (hes:X.env.scope=os) (heN:X.N=oN) (ok:lX os oN sc N js=true) (hi:PI X tg iter wi)
  (hg:∀ C fp s₀ H₀,PG (X.comp sc N C fp s₀ H₀) tg g) (ht:∀ C fp s₀ H₀,PTs (X.comp sc N C fp s₀ H₀) ifs tt) (he:∀ C fp s₀ H₀,PE (X.comp sc N C fp s₀ H₀) elt te)
  (hsw:swapsWith (.ListComp elt [⟨tg,iter,ifs,0⟩] sc pos) (some (.Name x pos')) spos.line X.env=pure true:=by rfl)
  (hs:∀ x,ia iter X.env x=pure x:=by intro _; rfl):PS X (.Assign [.Name x pos'] (.ListComp elt [⟨tg,iter,ifs,0⟩] sc pos) spos) (PL (G1 js wi g tt te) (Jl i)):=by
 intro pins s σ H D I h;rw [exec_Assign_Name_used _ _ _ _ hsw];refine aa (wpAny_standAt (aa ?_))
 show wpAny _ X.A (do let _ <- comprehension (.ListComp elt [⟨tg,iter,ifs,0⟩] sc pos) sc X.env _ (newList []) false (eval iter X.env) (some (assign (.Name x pos') X.env))) _ _ s
 refine aa (thn (yD (use:=some (assign (.Name x pos') X.env)) (Q0:=fun _ s'=>SP X pins D .next s') hc hes heN ok hi hg ht he I h (fun acc C s6 H6 I6 o q=>?_) hs) fun _ s' hq=>ag (ag hq))
 show wpAny _ X.A (assign (.Name x pos') X.env (.ref acc)) _ _ _
 refine wpAny_assign_Name (xT I6 hN hx' (.inl hloc) (v:=.ref acc) rfl (fun s7 I7 ⟨a,hs7,ha⟩=>?_) (.inr hloc));have hCa:C≠a:=by
  rcases ha with rfl | ha
  ·exact o.loc
  ·exact fun e=>o.cells x a ha e.symm
 obtain ⟨m,hn⟩:=o.ns;have o7:Off X pins H6 C s7:=⟨⟨m,hn.sameBut hs7 hCa⟩,o.none,o.loc,o.new,o.cells,o.pins⟩;exact ⟨m,hn.sameBut hs7 hCa,fun h' hs'=>⟨_,H6,o7.go I7 hs',q⟩⟩
end
section
variable {X:Cx}
noncomputable def Sr:V->Option Int->Option Int->Hp->VK->Prop:=fun x lo hi H Q=>∃ z,x=.str z/\z.length<=au/\Q (.str (Txt.slice z lo hi)) H
theorem part_of {v:Value} {o:Option Int} (h:IsPart v o):∃ p:Option (Int×Tok),v=partValue p/\p.map (·.1)=o:=by
 cases h with
 | none=>exact ⟨none,rfl,rfl⟩
 | int i t=>exact ⟨some (i,t),rfl,rfl⟩
theorem Qn:SlR X Sr:=by
 intro pins s σ H x v vl vu lo hi sl Q I rx hs pl pu h;obtain ⟨z,rfl,hz,q⟩:=h;obtain ⟨t,rfl⟩:=rx;obtain ⟨l,rfl,rfl⟩:=part_of pl;obtain ⟨u,rfl,rfl⟩:=part_of pu;obtain ⟨o,ho,hc,hd⟩:=hs;refine ⟨"str",_,PySem.F.slot_str_getitem.lookup,typeIs_str s z t,?_⟩;refine wpAny_getItem_str_slice (l:=l) (u:=u) (st:=none) ⟨o,ho,hc,hd⟩ rfl ?_;have e:sliceMade z t l u none=if ((1:Int) == 1 && (j7 (l.map (·.1)) (u.map (·.1)) 1 z.length).length == z.length)=true then Made.val (.str z t) else Made.str ⟨((j7 (l.map (·.1)) (u.map (·.1)) 1 z.length).filterMap (z.cps[·]?)).toArray⟩:=rfl;have hle:=Txt.slice_le z (l.map (·.1)) (u.map (·.1));unfold Txt.slice at q hle;rw [e]
 by_cases hc':((1:Int) == 1 && (j7 (l.map (·.1)) (u.map (·.1)) 1 z.length).length == z.length)=true
 ·rw [if_pos hc'] at q ⊢;exact ⟨.str z,H,I,⟨t,rfl⟩,q⟩
 ·rw [if_neg hc'] at q hle ⊢;exact ⟨c9 hle hz,.str _,H,I.tok _,⟨_,rfl⟩,q⟩
theorem tO:∀ {ss:List Str} {us:List Value},aN (ss.map V.str) us->StrsAre us ss
 | [],_,r=>by cases r; exact .nil
 | x :: ss,_,r=>by
  cases r with
  | cons h t=>
   obtain ⟨tk,rfl⟩:=h;exact .cons x tk (tO t)
theorem yE:∀ {us:List Value} {ss:List Str},StrsAre us ss->aN (ss.map V.str) us
 | _,_,.nil=>.nil
 | _,_,.cons x t h=>.cons ⟨t,rfl⟩ (yE h)
theorem pQ:bT X (.builtin "sorted") (fun xs H Q=>∃ p ss,xs=[.ref p]/\SqL X.K H p (ss.map V.str)/\ss.length < 64/\
  ∀ l ss',H l=none->ss'.Perm ss->sortedS ss'=true->Q (.ref l) (upd H l (.lst (ss'.map V.str)))):=by
 intro pins s σ H xs us Q I r h;obtain ⟨p,ss,rfl,hq,h64,q⟩:=h;obtain ⟨u,rfl,ru⟩:=vals1 r;cases ru
 obtain ⟨its,rv,pl,hz⟩:=I.list hq;have hlen:=rv.length;rw [ae] at hlen;refine sorted_strs pl.isList (tO rv) (by omega) fun out ss' a1 a2 a3=>?_;obtain ⟨e,he⟩:=sortedAll_at s.heap its out;refine ⟨.ref (s.heap.objs.size+1),_,I.laid (t':=s.toks) (o:=.lst (ss'.map V.str)) (fun b ob h=>sortedAll_old h) (Nat.le_succ _) ?_,rfl,q _ ss' (I.hok.fresh (Nat.le_succ _)) a2 a3⟩;refine ⟨?_,out.toList,e,yE a1,by rw [he]⟩;rw [ae,a2.length_eq];exact iw (lj h64 (by decide))
theorem gT {es:List Expr} {k:Nat} {t:TGs} {n:Nat} {pos:Pos} (K:af) (hK:X.K=K) (hc:X.calm=true) (h:PGs X es t)
  (hn:(iq es X.env).length=n:=by rfl) (hst:(iq es X.env).findIdx? (·.1)=none:=by rfl):PG X (.Tuple es k pos) (S5 K n t):=by subst hK; exact PK hc h hn hst
end
section
variable {X:Cx} {e a b:Expr} {t t' ta tb:TE} {pos:Pos}
theorem PE.imp (h:PE X e t) (i:∀ σ H Q,t' σ H Q->t σ H Q):PE X e t':=fun pins s σ H Q I q=>h pins s σ H Q I (i σ H Q q)
theorem PT.imp {t t':TT} (h:PT X e t) (i:∀ σ H Q,t' σ H Q->t σ H Q):PT X e t':=fun pins s σ H Q I q=>h pins s σ H Q I (i σ H Q q)
theorem OpR.imp {f:Value->Value->Sem Value} {r r':R2} (h:OpR X f r) (i:∀ x y H Q,r' x y H Q->r x y H Q):OpR X f r':=fun pins s σ H x y v u Q I rx ry q=>h pins s σ H x y v u Q I rx ry (i x y H Q q)
theorem bT.imp {f:Value} {r r':List V->Hp->VK->Prop} (h:bT X f r) (i:∀ xs H Q,r' xs H Q->r xs H Q):bT X f r':=fun pins s σ H xs us Q I rx q=>h pins s σ H xs us Q I rx (i xs H Q q)
noncomputable def cV (i:Nat):TE:=fun σ H Q=>match E2 σ i with
 | some v=>Q v H
 | none=>False
theorem cv (i:Nat) {x:Str} (hN:X.N[i]?=some x:=by rfl) (hv:Vis X.env.scope x:=by first | exact Or.inl rfl | exact Or.inr (Or.inl rfl) | exact Or.inr (Or.inr rfl)) (hd:(x == ("__debug__" : Str))=false:=by decide)
  (hcd:(x == ("__classdict__" : Str))=false:=by decide):PE X (.Name x pos) (cV i):=by
 refine (DM hN hv hd hcd).imp fun σ H Q h=>?_;unfold cV at h;cases e:E2 σ i with
 | none=>rw [e] at h; exact h.elim
 | some v=>rw [e] at h; exact ⟨v,tN e,h⟩
noncomputable def Su (K:af):R2:=fun x y H Q=>match x,y with
 | .int i,.int j=>Q (.int (i+j)) H
 | .str i,.str j=>i.length+j.length<=au/\Q (.str (i++j)) H
 | .ref _,.ref _=>Sk x y H Q\/Pd K x y H Q
 | _,_=>False
theorem Nb (K:af) (hK:X.K=K):OpR X (fe .Add) (Su K):=by
 subst hK;refine (PU.or (DR.or (Qh.or N4))).imp fun x y H Q h=>?_;cases x <;> cases y <;> first
  | exact .inl ⟨_,_,rfl,rfl,h⟩
  | exact .inr (.inl ⟨_,_,rfl,rfl,h.1,h.2⟩)
  | exact .inr (.inr h)
  | exact h.elim
noncomputable def yF (C:Int->Int->Prop) (f:Int->Int->Int):R2:=fun x y H Q=>match x,y with
 | .int i,.int j=>C i j/\Q (.int (f i j)) H
 | _,_=>False
noncomputable def JG (f:Int->Int->Int):R2:=fun x y H Q=>match x,y with
 | .int i,.int j=>Q (.int (f i j)) H
 | _,_=>False
theorem sT {f:Value->Value->Sem Value} {C:Int->Int->Prop} {g:Int->Int->Int} (h:OpR X f (rI C fun i j=>.int (g i j))):OpR X f (yF C g):=
 h.imp fun x y H Q q=>by cases x <;> cases y <;> first | exact ⟨_,_,rfl,rfl,q.1,q.2⟩ | exact q.elim
theorem JH {f:Value->Value->Sem Value} {g:Int->Int->Int} (h:OpR X f (rI0 fun i j=>.int (g i j))):OpR X f (JG g):=
 h.imp fun x y H Q q=>by cases x <;> cases y <;> first | exact ⟨_,_,rfl,rfl,q⟩ | exact q.elim
theorem Nc:OpR X (fe .Sub) (JG fun i j=>i - j):=JH PY
theorem Nd:OpR X (fe .Mult) (yF BL fun i j=>i*j):=sT PZ
theorem Nf:OpR X (fe .FloorDiv) (yF Jp fun i j=>i / j):=sT MY
theorem Ng:OpR X (fe .Mod) (yF (fun _ j=>0 < j) fun i j=>i % j):=sT Q1
theorem Nh:OpR X (fe .Pow) (yF GP fun i j=>i ^ j.toNat):=sT Q2
noncomputable def BR (f:Int->Int->Bool) (g:List Nat->List Nat->Bool):R2:=fun x y H Q=>match x,y with
 | .int i,.int j=>Q (.bl (f i j)) H
 | .str i,.str j=>Q (.bl (g i.cps.toList j.cps.toList)) H
 | _,_=>False
theorem An {f:Value->Value->Sem Value} {p:Int->Int->Bool} {g:List Nat->List Nat->Bool} (h1:OpR X f (rI0 fun i j=>.bl (p i j)))
  (h2:OpR X f (fun x y H Q=>∃ i j,x=.str i/\y=.str j/\Q (.bl (g i.cps.toList j.cps.toList)) H)):OpR X f (BR p g):=
 (h1.or h2).imp fun x y H Q q=>by cases x <;> cases y <;> first | exact .inl ⟨_,_,rfl,rfl,q⟩ | exact .inr ⟨_,_,rfl,rfl,q⟩ | exact q.elim
theorem Qo:OpR X (cz .Lt) (BR (fun i j=>decide (i < j)) fun i j=>decide (i < j)):=An S9 GQ
theorem Qp:OpR X (cz .Gt) (BR (fun i j=>decide (j < i)) fun i j=>decide (j < i)):=An Sb fun pins s σ H x y v u Q I rx ry h=>by
 obtain ⟨i,j,rfl,rfl,q⟩:=h;obtain ⟨t,rfl⟩:=rx;obtain ⟨t',rfl⟩:=ry;exact PySem.P.gt_str (tG I q rfl)
theorem Qq:OpR X (cz .LtE) (BR (fun i j=>decide (i<=j)) fun i j=>!decide (j < i)):=An Sa fun pins s σ H x y v u Q I rx ry h=>by
 obtain ⟨i,j,rfl,rfl,q⟩:=h;obtain ⟨t,rfl⟩:=rx;obtain ⟨t',rfl⟩:=ry;exact PySem.P.le_str (tG I q rfl)
end
structure Vy (t:TE):Prop where
 go:∀ σ H (Q Q':VK),(∀ v H1,Q v H1->Q' v H1)->t σ H Q->t σ H Q'
section
variable {X:Cx} {e a b:Expr} {t t' ta tb:TE} {pos:Pos}
theorem Ni (hu:X.A.units+1 < cLine):IxR X (fun x y H Q=>∃ p v,x=.ref p/\pN H p y (some v)/\Q v H):=by
 intro value slice pins s σ H x y v u Q I rx ry h hs;obtain ⟨p,w,rfl,g,q⟩:=h;cases rx
 have hT:=BQ I g;unfold subscriptTail;refine aa ?_;rw [getitemInPython_of_ne hT.not_modules];refine aa (wpAny_specialOf hT PySem.F.slot_dict_getitem.lookup ?_);have fin:wpAny (model X.prog X.w) X.A (subscripted slice false (.ref p) u) (fun r s₃=>wpAny (model X.prog X.w) X.A (letTemporaryGo value (.ref p) r >>= fun _=>pure r) (EP X pins σ Q) X.xe s₃) X.xe s:=by
  rw [hs];exact wpAny_operating (GX hu I g ry fun w' s3 I3 rw'=>aa (wpAny_letTemporaryGo (ag ⟨w,H,I3,rw',q⟩)))
 first
  | exact ag (aa fin)
  | exact aa (ag (aa fin))
  | exact aa fin
noncomputable def Sv (K:af):R2:=fun x y H Q=>match x with
 | .str z=>(match y with
  | .int i=>z.length<=au/\∃ c,atI z.cps.toList i=some c/\Q (.str ⟨#[c]⟩) H
  | _=>False)
 | .ref p=>(∃ xs i v,y=.int i/\(SqL K H p xs\/SqT K H p xs)/\atI xs i=some v/\Q v H)\/∃ v,pN H p y (some v)/\Q v H
 | _=>False
theorem IxR.imp {r r':R2} (h:IxR X r) (i:∀ x y H Q,r' x y H Q->r x y H Q):IxR X r':=fun a b pins s σ H x y v u Q I rx ry q hs=>h a b pins s σ H x y v u Q I rx ry (i x y H Q q) hs
theorem ixC (hu:X.A.units+1 < cLine) (K:af) (hK:X.K=K):IxR X (Sv K):=by
 subst hK;refine (N5.or (Qd.or (Qe.or (Ni hu)))).imp fun x y H Q h=>?_;cases x with
 | str z=>
  cases y with
  | int i=>obtain ⟨h1,c,h2,h3⟩:=h; exact .inr (.inr (.inl ⟨z,i,c,rfl,rfl,h1,h2,h3⟩))
  | _=>exact h.elim
 | ref p=>
  rcases h with ⟨xs,i,v,rfl,hs | hs,ha,hq⟩ | ⟨v,g,hq⟩
  ·exact .inl ⟨p,xs,i,v,rfl,rfl,hs,ha,hq⟩
  ·exact .inr (.inl ⟨p,xs,i,v,rfl,rfl,hs,ha,hq⟩)
  ·exact .inr (.inr (.inr ⟨p,v,rfl,g,hq⟩))
 | _=>exact h.elim
theorem Hb (hu:X.A.units+1 < cLine) (K:af) (hK:X.K=K):OpR X (cz .NotIn) (fun x y H Q=>rIn K true x y H Q\/∃ a o,y=.ref a/\pN H a x o/\Q (.bl (!o.isSome)) H):=by
 subst hK;refine Ai.or fun pins s σ H x y v u Q I rx ry h=>?_;obtain ⟨a,o,rfl,g,q⟩:=h;cases ry
 exact N7 hu I g rx fun s' I'=>⟨.bl (!o.isSome),H,I',rfl,q⟩
noncomputable def Sw (K:af):List V->Hp->VK->Prop:=fun xs H Q=>match xs with
 | [.str y]=>y.length<=au/\Q (.int y.length) H
 | [.ref p]=>(∃ xs,(SqL K H p xs\/SqT K H p xs)/\Q (.int xs.length) H)\/∃ kvs,H p=some (.dK kvs)/\Q (.int kvs.length) H
 | _=>False
theorem Hc (K:af) (hK:X.K=K):bT X (.builtin "len") (Sw K):=by
 subst hK;intro pins s σ H xs us Q I r h
 match xs,h with
 | [.str y],h=>exact Jv pins s σ H _ us Q I r ⟨_,_,rfl,⟨h.1,rfl⟩,h.2⟩
 | [.ref p],h=>
  rcases h with ⟨ys,hs,q⟩ | ⟨kvs,hs,q⟩
  ·exact Aj pins s σ H _ us Q I r ⟨p,ys,rfl,hs,q⟩
  ·exact GZ pins s σ H _ us Q I r ⟨p,kvs,rfl,hs,q⟩
noncomputable def Sx:List V->Hp->VK->Prop:=fun xs H Q=>match xs with
 | [.int i,.int j]=>Q (.int (if j > i then j else i)) H
 | _=>False
theorem Hd (hc:X.calm=true):bT X (.builtin "max") Sx:=(GR hc).imp fun xs H Q h=>by
 match xs,h with
 | [.int i,.int j],h=>exact ⟨i,j,rfl,h⟩
theorem E4 (K:af) (hK:X.K=K):bT X (.type "list") (fun xs H Q=>∃ p ys,xs=[.ref p]/\(SqL K H p ys\/SqT K H p ys)/\∀ l,H l=none->Q (.ref l) (upd H l (.lst ys))):=by subst hK; exact Ak
theorem BS (K:af) (hK:X.K=K):bT X (.type "tuple") (fun xs H Q=>∃ p ys,xs=[.ref p]/\((SqL K H p ys/\∀ l,H l=none->Q (.ref l) (upd H l (.tup ys)))\/(SqT K H p ys/\Q (.ref p) H))):=by subst hK; exact wV
noncomputable def Sy (ta:TA):TI:=fun σ H R=>ta σ H fun vs H1=>match vs with
 | [.int j]=>(-(2 ^ 62)<=j/\j < 2 ^ 62)/\R (Itr 0 j.toNat) H1
 | _=>False
theorem Nj {vs:List V} {Q:Int->Prop} (h:match vs with | [.int i]=>Q i | _=>False):∃ i,vs=[.int i]/\Q i:=by
 split at h
 · exact ⟨_,rfl,h⟩
 · exact h.elim
theorem pr1 {x:Expr} {ta:TA} {tg:Expr} {p pos:Pos} (hg:Gl X "range") (hm:X.mg "range" = none) (ha:PA X [x] ta) (hs:bz [x] X.env=[(false,eval x X.env)]:=by rfl):PI X tg (.Call (.Name "range" p) [x] [] pos) (Sy ta):=by
 intro pins s σ H R I h;refine Call_ (pL I hg hm boot_range (PyProof.Rows.callWith_type1 (thn (ha pos pins s σ H _ I h) fun us s1 hz=>?_) hs rfl));obtain ⟨vs,H1,I1,r1,q1⟩:=hz;obtain ⟨j,rfl,⟨h1,h2⟩,q⟩:=Nj q1;obtain ⟨u,rfl,t,rfl⟩:=vals1 r1;exact call_range_1 (Jo I1 (by omega) (by omega) h1 h2 (by simpa using q))
noncomputable def Sz (t:TE):TO:=fun σ H Q=>t σ H fun x H1=>match x with
 | .int i=>Q (some i) H1
 | _=>False
theorem JI {x:Expr} {te:TE} (h:PE X x te):PO X (some x) (Sz te):=by
 intro pins s σ H Q I hw;rw [evalPart_some];refine thn (h pins s σ H _ I hw) fun u s1 hz=>?_;obtain ⟨x,H1,I1,r1,q1⟩:=hz;cases x with
 | int i=>
  obtain ⟨t,rfl⟩:=r1;exact ⟨some i,H1,I1,.int i t,q1⟩
 | _=>exact q1.elim
end
structure Def (K:af) (mg:Str->Option Value) (x:Str) (st:Stmt) (f:Addr) (fd:c5) (ps:List Str):Prop where
 fn:Fun K x x st f fd
 mg:mg x=some (.ref f)
 bd:Binds K fd ps []
section
variable {X:Cx}
theorem SB {x:Str} {st:Stmt} {f:Addr} {fd:c5} {ps:List Str} {k:Nat} {sp:Sp} {e:Expr} {es:List Expr} {t:TA} {p pos:Pos} (D:Def X.K X.mg x st f fd ps) (G:aY X.prog X.w X.K X.mg X.base CX0 k f fd ps sp) (hr:fQ k X.A) (ha:PA X (e :: es) t)
  (hg:Gl X x:=by rfl) (hdb:(x == ("__debug__" : Str))=false:=by decide) (he:bz (e :: es) X.env=(false,eval e X.env) :: bz es X.env:=by rfl) (hpl:(backTo pos (bz es X.env)).any (·.1)=false:=by rfl):
  PE X (.Call (.Name x p) (e :: es) [] pos) (Pc sp [] E0 t):=N1 G hr hg D.mg D.fn.kp D.bd .nil Sl ha hdb he hpl
end
theorem Qr {α:Type} {xs:List α} {i:Int} (h0:0<=i) (h1:i < xs.length):∃ v,atI xs i=some v/\xs[i.toNat]?=some v:=by
 have h2:i.toNat < xs.length:=by omega
 refine ⟨xs[i.toNat],?_,by simp [h2]⟩;unfold atI ixN;rw [if_pos h0,if_pos h1];simp [h2]
theorem dQ {α:Type} {xs:List α} {i:Nat} {v:α} (h:xs[i]?=some v):atI xs (i:Int)=some v:=by
 have h1:=(ab.mp h).1;unfold atI ixN;rw [if_pos (by omega),if_pos (by omega)];simpa using h
theorem BO.upd {H:Hp} {a:Addr} {o:HO} (h:H a=none):BO H (upd H a o):=fun b u e=>by
 rw [bG (cN e h)]; exact e
theorem Def.mk' {K:af} {mg:Str->Option Value} {h:Heap} {x:Str} {st:Stmt} {f:Addr} {ps:List Str} {oc:Value} {od an:Option Addr} {osl:Array (Option Value)} {kV doc pm cdv ct:Value} (X:K.In h) (G:h.Ns cf mg)
  (a:c6 K cf x=some (some (.ref f))) (l:K.lookup f=some ⟨oc,od,.func (b9 x x (aU st) (aQ st) (aF st) .none kV doc pm an cdv ct),osl⟩)
  (c:cb K cdv x=true) (k:bp K (.ref f)=true)
  (b:∀ (kV doc pm:Value) (an:Option Addr) (cdv ct:Value) (us:List Value),us.length=ps.length->bindArgs (b9 x x (aU st) (aQ st) (aF st) .none kV doc pm an cdv ct) ⟨us,[]⟩=pure (ps.zip us)):
  Def K mg x st f (b9 x x (aU st) (aQ st) (aF st) .none kV doc pm an cdv ct) ps:=
 ⟨DY l c k,PySem.W.mg_of X G a,(DY (st:=st) l c k).binds b⟩
end L2
namespace L2
open PySem PySem.Spec PyProof.Rows PySem.SeqAt
inductive D where
 | non | bl (b:Bool) | int (i:Int) | str (x:Str) | tup (xs:List D)
mutual
noncomputable def D.depth:D->Nat
 | .tup xs=>D.depths xs+1
 | _=>0
noncomputable def D.depths:List D->Nat
 | []=>0
 | x :: xs=>max (D.depth x) (D.depths xs)
end
theorem D.depths_le:∀ {xs:List D} {i:Nat} {d:D},xs[i]?=some d->d.depth<=D.depths xs
 | [],_,_,h=>by simp at h
 | x :: xs,0,d,h=>by
  have:x=d:=by simpa using h
  subst this
  show x.depth<=max x.depth (D.depths xs)
  omega
 | x :: xs,i+1,d,h=>by
  have:=D.depths_le (xs:=xs) (i:=i) (d:=d) (by simpa using h)
  show d.depth<=max x.depth (D.depths xs)
  omega
mutual
/-- the value x is the datum,in the heap H -/
noncomputable def Rep (K:af) (H:Hp):D->V->Prop
 | .non,v=>v=.non
 | .bl b,v=>v=.bl b
 | .int i,v=>v=.int i
 | .str x,v=>v=.str x
 | .tup ds,v=>∃ a vs,v=.ref a/\SqT K H a vs/\cG K H ds vs
noncomputable def cG (K:af) (H:Hp):List D->List V->Prop
 | [],[]=>True
 | d :: ds,v :: vs=>Rep K H d v/\cG K H ds vs
 | [],_ :: _=>False
 | _ :: _,[]=>False
end
mutual
/-- == -/
noncomputable def eqD:D->D->Bool
 | .non,.non=>true
 | .bl a,.bl b=>a == b
 | .bl a,.int b=>(if a then 1 else 0) == b
 | .int a,.bl b=>a == (if b then 1 else 0)
 | .int a,.int b=>a == b
 | .str a,.str b=>a == b
 | .tup xs,.tup ys=>eE xs ys
 | _,_=>false
noncomputable def eE:List D->List D->Bool
 | [],[]=>true
 | x :: xs,y :: ys=>eqD x y && eE xs ys
 | [],_ :: _=>false
 | _ :: _,[]=>false
end
mutual
/-- < (none: an error) -/
noncomputable def ltD:D->D->Option Bool
 | .int a,.int b=>some (decide (a < b))
 | .str a,.str b=>some (decide (a.cps.toList < b.cps.toList))
 | .tup xs,.tup ys=>Ao xs ys
 | _,_=>none
noncomputable def Ao:List D->List D->Option Bool
 | [],[]=>some false
 | [],_ :: _=>some true
 | _ :: _,[]=>some false
 | x :: xs,y :: ys=>if eqD x y=true then Ao xs ys else ltD x y
end
mutual
theorem iC:∀ d:D,eqD d d=true
 | .non=>rfl
 | .bl b=>by simp [eqD]
 | .int i=>by simp [eqD]
 | .str x=>by simp [eqD]
 | .tup xs=>by simp only [eqD]; exact yG xs
theorem yG:∀ ds:List D,eE ds ds=true
 | []=>rfl
 | d :: ds=>by simp only [eE,iC d,yG ds,Bool.and_self]
end
noncomputable def iS (H H':Hp):Prop:=∀ a xs,Rd H a (.tup xs)->Rd H' a (.tup xs)
theorem iS.refl (H:Hp):iS H H:=fun _ _ h=>h
theorem iS.trans {H H1 H2:Hp} (a:iS H H1) (b:iS H1 H2):iS H H2:=fun c xs h=>b c xs (a c xs h)
theorem iS.same {H H':Hp} (s:BO H H'):iS H H':=fun a xs h=>by
 rcases h with h | ⟨o,h⟩
 ·exact .inl (s _ _ h)
 ·exact .inr ⟨o,s _ _ h⟩
noncomputable def BU:Option HO->Prop
 | some (.tup _)=>False
 | some (.frz _ _)=>False
 | _=>True
theorem iS.upd {H:Hp} {p:Addr} {o:HO} (h:BU (H p)):iS H (upd H p o):=fun a xs q=>by
 have ne:a≠p:=by
  rintro rfl;rcases q with q | ⟨ob,q⟩
  ·rw [q] at h; exact h
  ·rw [q] at h; exact h
 rcases q with q | ⟨ob,q⟩
 ·exact .inl (by rw [bG ne]; exact q)
 ·exact .inr ⟨ob,by rw [bG ne]; exact q⟩
theorem iS.sq {K:af} {H H':Hp} {a:Addr} {xs:List V} (t:iS H H') (h:SqT K H a xs):SqT K H' a xs:=by
 rcases h with h | h
 ·exact .inl (t a xs h)
 ·exact .inr h
section
variable {K:af} {H H':Hp}
mutual
theorem Rep.tp (t:iS H H'):∀ {d:D} {v:V},Rep K H d v->Rep K H' d v
 | .non,_,h=>h
 | .bl _,_,h=>h
 | .int _,_,h=>h
 | .str _,_,h=>h
 | .tup ds,_,⟨a,vs,e,q,r⟩=>⟨a,vs,e,t.sq q,cG.tp t r⟩
theorem cG.tp (t:iS H H'):∀ {ds:List D} {vs:List V},cG K H ds vs->cG K H' ds vs
 | [],[],_=>trivial
 | _ :: _,_ :: _,⟨h,r⟩=>⟨Rep.tp t h,cG.tp t r⟩
 | [],_ :: _,h=>h.elim
 | _ :: _,[],h=>h.elim
end
theorem cG.length:∀ {ds:List D} {vs:List V},cG K H ds vs->ds.length=vs.length
 | [],[],_=>rfl
 | _ :: _,_ :: _,⟨_,r⟩=>by simp [cG.length r]
 | [],_ :: _,h=>h.elim
 | _ :: _,[],h=>h.elim
theorem cG.get:∀ {ds:List D} {vs:List V} {i:Nat} {v:V},cG K H ds vs->vs[i]?=some v->∃ d,ds[i]?=some d/\Rep K H d v
 | [],[],_,_,_,e=>by simp at e
 | d :: _,w :: _,0,v,⟨h,_⟩,e=>by
  have:w=v:=by simpa using e
  subst this;exact ⟨d,rfl,h⟩
 | _ :: ds,_ :: vs,i+1,v,⟨_,r⟩,e=>by
  obtain ⟨d,h1,h2⟩:=cG.get (ds:=ds) (vs:=vs) (i:=i) (v:=v) r (by simpa using e)
  exact ⟨d,by simpa using h1,h2⟩
 | [],_ :: _,_,_,h,_=>h.elim
 | _ :: _,[],_,_,h,_=>h.elim
theorem cG.at:∀ {ds:List D} {vs:List V} {i:Nat} {d:D},cG K H ds vs->ds[i]?=some d->∃ v,vs[i]?=some v/\Rep K H d v
 | [],[],_,_,_,e=>by simp at e
 | d :: _,w :: _,0,d',⟨h,_⟩,e=>by
  have:d=d':=by simpa using e
  subst this;exact ⟨w,rfl,h⟩
 | _ :: ds,_ :: vs,i+1,d,⟨_,r⟩,e=>by
  obtain ⟨v,h1,h2⟩:=cG.at (ds:=ds) (vs:=vs) (i:=i) (d:=d) r (by simpa using e)
  exact ⟨v,by simpa using h1,h2⟩
 | [],_ :: _,_,_,h,_=>h.elim
 | _ :: _,[],_,_,h,_=>h.elim
end
section
variable {X:Cx} {pins:List (Addr×Obj)} {σ:St} {H:Hp} {s:Shared}
theorem eI {A:Around} {s:Shared} {v u:Value} {b:Bool} (h:RcAt A s v u b) (hs:v=u->b=true) (hf:∀ f t,v≠.float f t):EqAt A s v u b:=fun prog w E Q hq=>by
 unfold eqBool;refine da ?_;refine wpAny_ite_split (fun hab=>?_) (fun _=>?_)
 ·have e:=hs (eq_of_beq hab);subst e;exact aa (jf (ag hq))
 ·cases v <;> first | exact absurd rfl (hf _ _) | exact aa (h prog w E _ (ib hq)) | (cases u <;> exact aa (h prog w E _ (ib hq)))
theorem yH {K:af} {H:Hp} {d:D} {x:V} {v:Value} (h:Rep K H d x) (r:RelV x v):∀ f t,v≠.float f t:=fun f t e=>by
 subst e;cases d with
 | non=>cases h; cases r
 | bl b=>cases h; cases r
 | int b=>cases h; obtain ⟨_,z⟩:=r; cases z
 | str b=>cases h; obtain ⟨_,z⟩:=r; cases z
 | tup ds=>obtain ⟨_,_,rfl,_⟩:=h; cases r
theorem kN (I:Inv X pins σ H s):∀ (n:Nat) (d e:D) (v:V),d.depth<=n->Rep X.K H d v->Rep X.K H e v->d=e
 | n,.non,e,v,_,h,h'=>by
  cases h
  cases e <;> first | (obtain ⟨_,_,z,_⟩:=h'; exact absurd z (by intro q; cases q)) | rfl | exact absurd h' (by intro z; cases z)
 | n,.bl b,e,v,_,h,h'=>by
  cases h
  cases e <;> first | (obtain ⟨_,_,z,_⟩:=h'; exact absurd z (by intro q; cases q)) | (cases h'; rfl) | exact absurd h' (by intro z; cases z)
 | n,.int i,e,v,_,h,h'=>by
  cases h
  cases e <;> first | (obtain ⟨_,_,z,_⟩:=h'; exact absurd z (by intro q; cases q)) | (cases h'; rfl) | exact absurd h' (by intro z; cases z)
 | n,.str x,e,v,_,h,h'=>by
  cases h
  cases e <;> first | (obtain ⟨_,_,z,_⟩:=h'; exact absurd z (by intro q; cases q)) | (cases h'; rfl) | exact absurd h' (by intro z; cases z)
 | 0,.tup ds,e,v,hd,h,h'=>absurd hd (by show ¬ D.depths ds+1<=0; omega)
 | n+1,.tup ds,e,v,hd,h,h'=>by
  obtain ⟨a,vs,rfl,q,r⟩:=h;cases e with
  | tup es=>
   obtain ⟨a',vs',ea,q',r'⟩:=h';cases ea
   have:=I.tuple_inj q q';subst this;have hd':D.depths ds+1<=n+1:=hd;have:ds=es:=by
    apply e8;intro i;cases hi:ds[i]? with
    | none=>
     have h1:=r.length;have h2:=r'.length;have:ds.length<=i:=ja.mp hi;exact (ja.mpr (by omega)).symm
    | some d=>
     obtain ⟨v,hv,hr⟩:=r.at hi;obtain ⟨e,he,hr'⟩:=r'.get hv;rw [he,kN I n d e v (by have:=D.depths_le hi; omega) hr hr']
   rw [this]
  | _=>cases h'
theorem nJ {xs ys:List D}:((ax (min xs.length ys.length)).all (fun j=>match xs[j]?,ys[j]? with | some x,some y=>eqD x y | _,_=>false) && xs.length == ys.length)=eE xs ys:=by
 induction xs generalizing ys with
 | nil=>
  cases ys with
  | nil=>rfl
  | cons y ys=>simp [eE]
 | cons x xs ih=>
  cases ys with
  | nil=>simp [eE]
  | cons y ys=>
   have:=ih (ys:=ys);have e:min (x :: xs).length (y :: ys).length=min xs.length ys.length+1:=by simp only [dk]; omega
   rw [e,List.range_succ_eq_map,jq,List.all_map];simp only [List.getElem?_cons_zero,Function.comp_def,ft,dk,eE];rw [<- this];have e2:(xs.length+1 == ys.length+1)=(xs.length == ys.length):=by simp
   rw [e2,Bool.and_assoc]
theorem SC (I:Inv X pins σ H s):∀ (n:Nat) (d e:D) (A:Around) (x y:V) (v u:Value),d.depth<=n->A.units+n < cLine->Rep X.K H d x->Rep X.K H e y->RelV x v->RelV y u->RcAt A s v u (eqD d e):=by
 intro n
 induction n with
 | zero=>
  intro d e A x y v u hd hu hx hy rx ry;cases d with
  | tup ds=>exact absurd hd (by show ¬ D.depths ds+1<=0; omega)
  | non=>
   cases hx; cases rx;cases e with
   | non=>cases hy; cases ry; exact RcAt.none_none
   | bl b=>cases hy; cases ry; exact RcAt.none_bool b
   | int b=>cases hy; obtain ⟨t,rfl⟩:=ry; exact RcAt.none_int b t
   | str b=>cases hy; obtain ⟨t,rfl⟩:=ry; exact RcAt.none_str b t
   | tup es=>obtain ⟨a,vs,rfl,q,r⟩:=hy; cases ry; obtain ⟨its,_,p,_⟩:=I.tuple q; exact RcAt.none_tuple p (by omega)
  | bl a=>
   cases hx; cases rx;cases e with
   | non=>cases hy; cases ry; exact RcAt.bool_none a
   | bl b=>cases hy; cases ry; exact RcAt.bool_bool a b
   | int b=>cases hy; obtain ⟨t,rfl⟩:=ry; exact RcAt.bool_int a b t
   | str b=>cases hy; obtain ⟨t,rfl⟩:=ry; exact RcAt.bool_str a b t
   | tup es=>obtain ⟨a',vs,rfl,q,r⟩:=hy; cases ry; obtain ⟨its,_,p,_⟩:=I.tuple q; exact RcAt.bool_tuple a p (by omega)
  | int a=>
   cases hx; obtain ⟨t',rfl⟩:=rx;cases e with
   | non=>cases hy; cases ry; exact RcAt.int_none a t'
   | bl b=>cases hy; cases ry; exact RcAt.int_bool a t' b
   | int b=>cases hy; obtain ⟨t,rfl⟩:=ry; exact RcAt.int_int a t' b t
   | str b=>cases hy; obtain ⟨t,rfl⟩:=ry; exact RcAt.int_str a t' b t
   | tup es=>obtain ⟨a',vs,rfl,q,r⟩:=hy; cases ry; obtain ⟨its,_,p,_⟩:=I.tuple q; exact RcAt.int_tuple a t' p (by omega)
  | str a=>
   cases hx; obtain ⟨t',rfl⟩:=rx;cases e with
   | non=>cases hy; cases ry; exact RcAt.str_none a t'
   | bl b=>cases hy; cases ry; exact RcAt.str_bool a t' b
   | int b=>cases hy; obtain ⟨t,rfl⟩:=ry; exact RcAt.str_int a t' b t
   | str b=>cases hy; obtain ⟨t,rfl⟩:=ry; exact RcAt.str_str a t' b t
   | tup es=>obtain ⟨a',vs,rfl,q,r⟩:=hy; cases ry; obtain ⟨its,_,p,_⟩:=I.tuple q; exact RcAt.str_tuple a t' p (by omega)
 | succ n ih=>
  intro d e A x y v u hd hu hx hy rx ry
  by_cases h0:d.depth<=n
  ·exact ih d e A x y v u h0 (by omega) hx hy rx ry
  ·cases d with
   | non=>exact absurd (show D.depth .non<=n from b8 n) h0
   | bl b=>exact absurd (show D.depth (.bl b)<=n from b8 n) h0
   | int b=>exact absurd (show D.depth (.int b)<=n from b8 n) h0
   | str b=>exact absurd (show D.depth (.str b)<=n from b8 n) h0
   | tup ds=>
    have hds:D.depths ds<=n:=by have:D.depths ds+1<=n+1:=hd; omega
    obtain ⟨a,vs,rfl,q,r⟩:=hx;cases rx
    obtain ⟨its,rv,p,_⟩:=I.tuple q;cases e with
    | non=>cases hy; cases ry; exact RcAt.tuple_none p (by omega)
    | bl b=>cases hy; cases ry; exact RcAt.tuple_bool b p (by omega)
    | int b=>cases hy; obtain ⟨t,rfl⟩:=ry; exact RcAt.tuple_int b t p (by omega)
    | str b=>cases hy; obtain ⟨t,rfl⟩:=ry; exact RcAt.tuple_str b t p (by omega)
    | tup es=>
     obtain ⟨a',vs',rfl,q',r'⟩:=hy;cases ry
     obtain ⟨its',rv',p',_⟩:=I.tuple q';have l1:=r.length;have l2:=r'.length;have l3:=rv.length;have l4:=rv'.length;have key:=RcAt.tuples (A:=A) (e:=fun j=>match ds[j]?,es[j]? with | some x,some y=>eqD x y | _,_=>false) p p' (by omega) (fun j h1 h2=>by
      have h1':j < ds.length:=by simp at h1; omega
      have h2':j < es.length:=by simp at h2; omega
      have g1:ds[j]?=some ds[j]:=by simp [h1']
      have g2:es[j]?=some es[j]:=by simp [h2']
      obtain ⟨xv,hxv,hrx⟩:=r.at g1;obtain ⟨yv,hyv,hry⟩:=r'.at g2;obtain ⟨xu,hxu,hru⟩:=rv.get hxv;obtain ⟨yu,hyu,hru'⟩:=rv'.get hyv;have e1:its.toArray[j]=xu:=by
       have:its[j]?=some xu:=hxu;simpa using (ab.mp this).2
      have e2:its'.toArray[j]=yu:=by
       have:its'[j]?=some yu:=hyu;simpa using (ab.mp this).2
      rw [e1,e2];simp only [g1,g2];have hdj:=D.depths_le g1;refine eI (ih ds[j] es[j] A.in1 xv yv xu yu (by omega) (by show A.units+1+n < cLine; omega) hrx hry hru hru') (fun ev=>by
      subst ev;have exy:xv=yv:=RelV.inj hru hru';subst exy;rw [kN I n ds[j] es[j] xv (by omega) hrx hry];exact iC _) (yH hrx hru))
     have sz:((ax (min its.toArray.size its'.toArray.size)).all (fun j=>match ds[j]?,es[j]? with | some x,some y=>eqD x y | _,_=>false) && its.toArray.size == its'.toArray.size)=eqD (.tup ds) (.tup es):=by
      have a1:its.toArray.size=ds.length:=by simp; omega
      have a2:its'.toArray.size=es.length:=by simp; omega
      rw [a1,a2];simp only [eqD];exact nJ
     rw [<- sz];exact key
theorem JJ (I:Inv X pins σ H s) {n:Nat} {d e:D} {A:Around} {x y:V} {v u:Value} (hd:d.depth<=n) (hu:A.units+n < cLine) (hx:Rep X.K H d x) (hy:Rep X.K H e y) (rx:RelV x v) (ry:RelV y u):EqAt A s v u (eqD d e):=
 eI (SC I n d e A x y v u hd hu hx hy rx ry) (fun ev=>by
  subst ev;have exy:x=y:=RelV.inj rx ry;subst exy;rw [kN I n d e x hd hx hy];exact iC _) (yH hx rx)
theorem Qs (I:Inv X pins σ H s):∀ (n:Nat) (d e:D) (A:Around) (x y:V) (v u:Value),d.depth<=n->A.units+n < cLine->Rep X.K H d x->Rep X.K H e y->RelV x v->RelV y u->RcNeAt A s v u (!eqD d e):=by
 intro n
 induction n with
 | zero=>
  intro d e A x y v u hd hu hx hy rx ry;cases d with
  | tup ds=>exact absurd hd (by show ¬ D.depths ds+1<=0; omega)
  | non=>
   cases hx; cases rx;cases e with
   | non=>cases hy; cases ry; exact RcNeAt.none_none
   | bl b=>cases hy; cases ry; exact RcNeAt.none_bool b
   | int b=>cases hy; obtain ⟨t,rfl⟩:=ry; exact RcNeAt.none_int b t
   | str b=>cases hy; obtain ⟨t,rfl⟩:=ry; exact RcNeAt.none_str b t
   | tup es=>obtain ⟨a,vs,rfl,q,r⟩:=hy; cases ry; obtain ⟨its,_,p,_⟩:=I.tuple q; exact RcNeAt.none_tuple p (by omega)
  | bl a=>
   cases hx; cases rx;cases e with
   | non=>cases hy; cases ry; exact RcNeAt.bool_none a
   | bl b=>cases hy; cases ry; exact RcNeAt.bool_bool a b
   | int b=>cases hy; obtain ⟨t,rfl⟩:=ry; exact RcNeAt.bool_int a b t
   | str b=>cases hy; obtain ⟨t,rfl⟩:=ry; exact RcNeAt.bool_str a b t
   | tup es=>obtain ⟨a',vs,rfl,q,r⟩:=hy; cases ry; obtain ⟨its,_,p,_⟩:=I.tuple q; exact RcNeAt.bool_tuple a p (by omega)
  | int a=>
   cases hx; obtain ⟨t',rfl⟩:=rx;cases e with
   | non=>cases hy; cases ry; exact RcNeAt.int_none a t'
   | bl b=>cases hy; cases ry; exact RcNeAt.int_bool a t' b
   | int b=>cases hy; obtain ⟨t,rfl⟩:=ry; exact RcNeAt.int_int a t' b t
   | str b=>cases hy; obtain ⟨t,rfl⟩:=ry; exact RcNeAt.int_str a t' b t
   | tup es=>obtain ⟨a',vs,rfl,q,r⟩:=hy; cases ry; obtain ⟨its,_,p,_⟩:=I.tuple q; exact RcNeAt.int_tuple a t' p (by omega)
  | str a=>
   cases hx; obtain ⟨t',rfl⟩:=rx;cases e with
   | non=>cases hy; cases ry; exact RcNeAt.str_none a t'
   | bl b=>cases hy; cases ry; exact RcNeAt.str_bool a t' b
   | int b=>cases hy; obtain ⟨t,rfl⟩:=ry; exact RcNeAt.str_int a t' b t
   | str b=>cases hy; obtain ⟨t,rfl⟩:=ry; exact RcNeAt.str_str a t' b t
   | tup es=>obtain ⟨a',vs,rfl,q,r⟩:=hy; cases ry; obtain ⟨its,_,p,_⟩:=I.tuple q; exact RcNeAt.str_tuple a t' p (by omega)
 | succ n ih=>
  intro d e A x y v u hd hu hx hy rx ry
  by_cases h0:d.depth<=n
  ·exact ih d e A x y v u h0 (by omega) hx hy rx ry
  ·cases d with
   | non=>exact absurd (show D.depth .non<=n from b8 n) h0
   | bl b=>exact absurd (show D.depth (.bl b)<=n from b8 n) h0
   | int b=>exact absurd (show D.depth (.int b)<=n from b8 n) h0
   | str b=>exact absurd (show D.depth (.str b)<=n from b8 n) h0
   | tup ds=>
    have hds:D.depths ds<=n:=by have:D.depths ds+1<=n+1:=hd; omega
    obtain ⟨a,vs,rfl,q,r⟩:=hx;cases rx
    obtain ⟨its,rv,p,_⟩:=I.tuple q;cases e with
    | non=>cases hy; cases ry; exact RcNeAt.tuple_none p (by omega)
    | bl b=>cases hy; cases ry; exact RcNeAt.tuple_bool b p (by omega)
    | int b=>cases hy; obtain ⟨t,rfl⟩:=ry; exact RcNeAt.tuple_int b t p (by omega)
    | str b=>cases hy; obtain ⟨t,rfl⟩:=ry; exact RcNeAt.tuple_str b t p (by omega)
    | tup es=>
     obtain ⟨a',vs',rfl,q',r'⟩:=hy;cases ry
     obtain ⟨its',rv',p',_⟩:=I.tuple q';have l1:=r.length;have l2:=r'.length;have l3:=rv.length;have l4:=rv'.length;have key:=RcNeAt.tuples (A:=A) (e:=fun j=>match ds[j]?,es[j]? with | some x,some y=>eqD x y | _,_=>false) p p' (by omega) (fun j h1 h2=>by
      have h1':j < ds.length:=by simp at h1; omega
      have h2':j < es.length:=by simp at h2; omega
      have g1:ds[j]?=some ds[j]:=by simp [h1']
      have g2:es[j]?=some es[j]:=by simp [h2']
      obtain ⟨xv,hxv,hrx⟩:=r.at g1;obtain ⟨yv,hyv,hry⟩:=r'.at g2;obtain ⟨xu,hxu,hru⟩:=rv.get hxv;obtain ⟨yu,hyu,hru'⟩:=rv'.get hyv;have e1:its.toArray[j]=xu:=by
       have:its[j]?=some xu:=hxu;simpa using (ab.mp this).2
      have e2:its'.toArray[j]=yu:=by
       have:its'[j]?=some yu:=hyu;simpa using (ab.mp this).2
      rw [e1,e2];simp only [g1,g2];have hdj:=D.depths_le g1;exact JJ I (n:=n) (by omega) (by show A.units+1+n < cLine; omega) hrx hry hru hru')
     have sz:(!((ax (min its.toArray.size its'.toArray.size)).all (fun j=>match ds[j]?,es[j]? with | some x,some y=>eqD x y | _,_=>false) && its.toArray.size == its'.toArray.size))=(!eqD (.tup ds) (.tup es)):=by
      have a1:its.toArray.size=ds.length:=by simp; omega
      have a2:its'.toArray.size=es.length:=by simp; omega
      rw [a1,a2];simp only [eqD];rw [nJ]
     rw [<- sz];exact key
noncomputable def UP (K:af):R2:=fun x y H Q=>∃ d e,Rep K H d x/\Rep K H e y/\d.depth<=40/\Q (.bl (eqD d e)) H
noncomputable def UQ (K:af):R2:=fun x y H Q=>∃ d e,Rep K H d x/\Rep K H e y/\d.depth<=40/\Q (.bl (!eqD d e)) H
theorem Qt (hu:X.A.units+64 < cLine) (K:af) (hK:X.K=K):OpR X (cz .Eq) (UP K):=by
 subst hK;intro pins s σ H x y v u Q I rx ry h;obtain ⟨d,e,hx,hy,hd,q⟩:=h;exact SC I 40 d e X.A x y v u hd (by omega) hx hy rx ry X.prog X.w X.xe _ ⟨.bl _,H,I,rfl,q⟩
theorem Qu (hu:X.A.units+64 < cLine) (K:af) (hK:X.K=K):OpR X (cz .NotEq) (UQ K):=by
 subst hK;intro pins s σ H x y v u Q I rx ry h;obtain ⟨d,e,hx,hy,hd,q⟩:=h;exact Qs I 40 d e X.A x y v u hd (by omega) hx hy rx ry X.prog X.w X.xe _ ⟨.bl _,H,I,rfl,q⟩
noncomputable def BV (K:af) (H:Hp) (ds:List D) (v:V):Prop:=∃ a vs,v=.ref a/\SqL K H a vs/\cG K H ds vs
theorem pR {xs ys:List D} (h:xs.length=ys.length):(ax xs.length).all (fun j=>match xs[j]?,ys[j]? with | some x,some y=>eqD x y | _,_=>false)=eE xs ys:=by
 have:=nJ (xs:=xs) (ys:=ys);rw [h,Nat.min_self,beq_self_eq_true,Bool.and_true] at this;rw [h];exact this
theorem tQ {xs ys:List D} (h:eE xs ys=true):xs.length=ys.length:=by
 rw [<- nJ,cm] at h;exact eq_of_beq h.2
theorem lY {I:Inv X pins σ H s} {A:Around} {ds es:List D} {vs vs':List V} {its its':List Value} (r:cG X.K H ds vs) (r':cG X.K H es vs') (rv:aN vs its) (rv':aN vs' its') (hd:D.depths ds<=40) (hu:A.units+42 < cLine):
  ∀ j (h1:j < its.toArray.size) (h2:j < its'.toArray.size),EqAt A.in1 s its.toArray[j] its'.toArray[j] (match ds[j]?,es[j]? with | some x,some y=>eqD x y | _,_=>false):=fun j h1 h2=>by
 have l1:=r.length;have l2:=r'.length;have l3:=rv.length;have l4:=rv'.length;have h1':j < ds.length:=by simp at h1; omega
 have h2':j < es.length:=by simp at h2; omega
 have g1:ds[j]?=some ds[j]:=by simp [h1']
 have g2:es[j]?=some es[j]:=by simp [h2']
 obtain ⟨xv,hxv,hrx⟩:=r.at g1;obtain ⟨yv,hyv,hry⟩:=r'.at g2;obtain ⟨xu,hxu,hru⟩:=rv.get hxv;obtain ⟨yu,hyu,hru'⟩:=rv'.get hyv;have e1:its.toArray[j]=xu:=by simpa using (ab.mp hxu).2
 have e2:its'.toArray[j]=yu:=by simpa using (ab.mp hyu).2
 rw [e1,e2];simp only [g1,g2];have hdj:=D.depths_le g1;exact JJ I (n:=40) (by omega) (by show A.units+1+40 < cLine; omega) hrx hry hru hru'
noncomputable def UR (K:af):R2:=fun x y H Q=>∃ ds es,BV K H ds x/\BV K H es y/\D.depths ds<=40/\Q (.bl (eE ds es)) H
noncomputable def US (K:af):R2:=fun x y H Q=>∃ ds es,BV K H ds x/\BV K H es y/\D.depths ds<=40/\Q (.bl (!eE ds es)) H
theorem Qv (hu:X.A.units+64 < cLine) (K:af) (hK:X.K=K):OpR X (cz .Eq) (UR K):=by
 subst hK;intro pins s σ H x y v u Q I rx ry h;obtain ⟨ds,es,⟨a,vs,rfl,q,r⟩,⟨b,vs',rfl,q',r'⟩,hd,k⟩:=h;cases rx; cases ry;obtain ⟨its,rv,p,_⟩:=I.list q;obtain ⟨its',rv',p',_⟩:=I.list q';have l1:=r.length;have l2:=r'.length;have l3:=rv.length;have l4:=rv'.length
 by_cases hl:ds.length=es.length
 ·refine eq_listAt p.isList p'.isList (by simp; omega) (by omega) (lY (I:=I) r r' rv rv' hd (by omega)) ⟨.bl _,H,I,rfl,?_⟩;have e1:its.toArray.size=ds.length:=by simp; omega
  rw [e1,pR hl];exact k
 ·refine eq_list_lengthsAt p.isList p'.isList (by simp; omega) (by omega) ⟨.bl false,H,I,rfl,?_⟩;have e:eE ds es=false:=by
   cases h:eE ds es with
   | false=>rfl
   | true=>exact absurd (tQ h) hl
  rw [e] at k;exact k
theorem Qw (hu:X.A.units+64 < cLine) (K:af) (hK:X.K=K):OpR X (cz .NotEq) (US K):=by
 subst hK;intro pins s σ H x y v u Q I rx ry h;obtain ⟨ds,es,⟨a,vs,rfl,q,r⟩,⟨b,vs',rfl,q',r'⟩,hd,k⟩:=h;cases rx; cases ry;obtain ⟨its,rv,p,_⟩:=I.list q;obtain ⟨its',rv',p',_⟩:=I.list q';have l1:=r.length;have l2:=r'.length;have l3:=rv.length;have l4:=rv'.length
 by_cases hl:ds.length=es.length
 ·refine RcNeAt.lists p.isList p'.isList (by simp; omega) (by omega) (lY (I:=I) r r' rv rv' hd (by omega)) X.prog X.w X.xe _ ⟨.bl _,H,I,rfl,?_⟩;have e1:its.toArray.size=ds.length:=by simp; omega
  rw [e1,pR hl];exact k
 ·refine RcNeAt.lists_lengths p.isList p'.isList (by simp; omega) (by omega) X.prog X.w X.xe _ ⟨.bl true,H,I,rfl,?_⟩;have e:eE ds es=false:=by
   cases h:eE ds es with
   | false=>rfl
   | true=>exact absurd (tQ h) hl
  rw [e] at k;exact k
noncomputable def UT (K:af) (neg:Bool):R2:=fun x y H Q=>∃ d p ds vs,y=.ref p/\(SqL K H p vs\/SqT K H p vs)/\Rep K H d x/\cG K H ds vs/\D.depths ds<=40/\Q (.bl (if neg then !ds.any (fun e=>eqD e d) else ds.any (fun e=>eqD e d))) H
noncomputable def isD (K:af) (H:Hp) (d:D) (u:Value):Bool:=@decide (∃ e x,RelV x u/\Rep K H e x/\e.depth<=40/\eqD e d=true) (fu _)
theorem JK (I:Inv X pins σ H s) {d e:D} {x:V} {u:Value} (r:RelV x u) (h:Rep X.K H e x) (hd:e.depth<=40):isD X.K H d u=eqD e d:=by
 unfold isD;cases q:eqD e d with
 | true=>exact @decide_eq_true _ (fu _) ⟨e,x,r,h,hd,q⟩
 | false=>
  refine @decide_eq_false _ (fu _) ?_;rintro ⟨e',x',r',h',hd',q'⟩;have ex:x'=x:=RelV.inj r' r;subst ex;rw [kN I 40 e' e x' hd' h' h] at q';rw [q] at q';cases q'
theorem Ap (I:Inv X pins σ H s) {d:D}:∀ {ds:List D} {vs:List V} {us:List Value},cG X.K H ds vs->aN vs us->D.depths ds<=40->us.any (isD X.K H d)=ds.any fun e=>eqD e d
 | [],[],_,_,.nil,_=>rfl
 | e :: ds,_ :: _,_,⟨h,r⟩,.cons rv rvs,hd=>by
  have h1:e.depth<=40/\D.depths ds<=40:=by
   have:max e.depth (D.depths ds)<=40:=hd;omega
  rw [kh,kh,JK I rv h h1.1,Ap I r rvs h1.2]
 | [],_ :: _,_,h,_,_=>h.elim
 | _ :: _,[],_,h,_,_=>h.elim
theorem Aq (I:Inv X pins σ H s) {A:Around} {d:D} {x:V} {v:Value} (hx:Rep X.K H d x) (rx:RelV x v) (hu:A.units+42 < cLine):∀ {ds:List D} {vs:List V} {us:List Value},cG X.K H ds vs->aN vs us->D.depths ds<=40->∀ u∈us,EqAt A.in1 s u v (isD X.K H d u)
 | [],[],_,_,.nil,_=>fun u hu=>by cases hu
 | e :: ds,_ :: _,_,⟨h,r⟩,.cons rv rvs,hd=>fun u hm=>by
  have h1:e.depth<=40/\D.depths ds<=40:=by
   have:max e.depth (D.depths ds)<=40:=hd;omega
  rcases bc.mp hm with rfl | hm
  ·rw [JK I rv h h1.1];exact JJ I (n:=40) h1.1 (by show A.units+1+40 < cLine; omega) h hx rv rx
  ·exact Aq I hx rx hu r rvs h1.2 u hm
 | [],_ :: _,_,h,_,_=>h.elim
 | _ :: _,[],_,h,_,_=>h.elim
theorem He (hu:X.A.units+64 < cLine) (K:af) (hK:X.K=K):OpR X (cz .NotIn) (UT K true):=by
 subst hK;intro pins s σ H x y v u Q I rx ry h;obtain ⟨d,p,ds,vs,rfl,hq,hx,hr,hd,k⟩:=h;cases ry
 rcases hq with hq | hq
 ·obtain ⟨its,r,pl,hz⟩:=I.list hq;refine SeqAt.notIn_listAt (isD X.K H d) pl.isList (fun w hw=>Aq I hx rx (by omega) hr r hd w (by simpa using hw)) ⟨.bl _,H,I,rfl,?_⟩
  rw [show its.toArray.any (isD X.K H d)=its.any (isD X.K H d) by simp,Ap I hr r hd];exact k
 ·obtain ⟨its,r,pl,hz⟩:=I.tuple hq;refine SeqAt.notIn_tupleAt (isD X.K H d) pl (fun w hw=>Aq I hx rx (by omega) hr r hd w (by simpa using hw)) ⟨.bl _,H,I,rfl,?_⟩
  rw [show its.toArray.any (isD X.K H d)=its.any (isD X.K H d) by simp,Ap I hr r hd];exact k
end
end L2
namespace L2
open PySem
noncomputable def keyLt:Sum Int Str->Sum Int Str->Bool
 | .inl a,.inl b=>decide (a < b)
 | .inr a,.inr b=>decide (a.cps.toList < b.cps.toList)
 | _,_=>false
noncomputable def bR:List (Sum Int Str)->List (Sum Int Str)->Bool
 | [],[]=>false
 | [],_ :: _=>true
 | _ :: _,[]=>false
 | x :: xs,y :: ys=>if x=y then bR xs ys else keyLt x y
noncomputable def cX:Sum Int Str->Bool
 | .inl _=>true
 | .inr _=>false
noncomputable abbrev shape (ks:List (Sum Int Str)):List Bool:=ks.map cX
theorem Nk {a b:Str} (h:a.cps.toList=b.cps.toList):a=b:=by
 cases a; cases b
 congr
 exact Array.toList_inj.mp h
theorem JL {a b:Sum Int Str} (h:keyLt a b=true):keyLt b a=false:=by
 cases a <;> cases b <;> first | rfl | skip
 ·have:_ < _:=of_decide_eq_true h;exact decide_eq_false (by omega)
 ·exact decide_eq_false (List.lt_asymm (of_decide_eq_true h))
theorem yI {a b:Sum Int Str} (k:cX a=cX b) (h:keyLt a b=false) (h':keyLt b a=false):a=b:=by
 cases a <;> cases b <;> first | cases k | skip
 ·have h1:=of_decide_eq_false h;have h2:=of_decide_eq_false h'
  congr 1
  omega
 ·have h1:=of_decide_eq_false h;have h2:=of_decide_eq_false h'
  congr 1
  exact Nk (List.le_antisymm (List.not_lt.mp h2) (List.not_lt.mp h1))
theorem JM:∀ {a b c:Sum Int Str},cX a=cX b->cX b=cX c->keyLt b a=false->keyLt c b=false->keyLt c a=false
 | .inl a,.inl b,.inl c,_,_,h,h'=>by
  have h1:¬ b < a:=of_decide_eq_false h;have h2:¬ c < b:=of_decide_eq_false h';exact decide_eq_false (by omega)
 | .inr a,.inr b,.inr c,_,_,h,h'=>by
  have h1:a.cps.toList<=b.cps.toList:=List.not_lt.mp (of_decide_eq_false h);have h2:b.cps.toList<=c.cps.toList:=List.not_lt.mp (of_decide_eq_false h');exact decide_eq_false (List.not_lt.mpr (List.le_trans h1 h2))
 | .inl _,.inr _,_,k,_,_,_=>by cases k
 | .inr _,.inl _,_,k,_,_,_=>by cases k
 | .inl _,.inl _,.inr _,_,k,_,_=>by cases k
 | .inr _,.inr _,.inl _,_,k,_,_=>by cases k
theorem nK:∀ {a b:List (Sum Int Str)},bR a b=true->bR b a=false
 | [],[],_=>rfl
 | [],_ :: _,_=>rfl
 | _ :: _,[],h=>by cases h
 | x :: xs,y :: ys,h=>by
  unfold bR at h ⊢
  by_cases e:x=y
  ·subst e;rw [if_pos rfl] at h ⊢;exact nK h
  ·rw [if_neg e] at h;rw [if_neg fun z=>e z.symm];exact JL h
theorem jO:∀ {a b:List (Sum Int Str)},shape a=shape b->bR a b=false->bR b a=false->a=b
 | [],[],_,_,_=>rfl
 | [],_ :: _,s,_,_=>by cases s
 | _ :: _,[],s,_,_=>by cases s
 | x :: xs,y :: ys,s,h,h'=>by
  have s1:cX x=cX y:=by simpa using congrArg List.head? s
  have s2:shape xs=shape ys:=by simpa using congrArg List.tail s
  unfold bR at h h'
  by_cases e:x=y
  ·subst e;rw [if_pos rfl] at h h';rw [jO s2 h h']
  ·rw [if_neg e] at h;rw [if_neg fun z=>e z.symm] at h';exact absurd (yI s1 h h') e
theorem kO:∀ {a b c:List (Sum Int Str)},shape a=shape b->shape b=shape c->bR b a=false->bR c b=false->bR c a=false
 | [],[],[],_,_,_,_=>rfl
 | [],[],_ :: _,_,s',_,_=>by cases s'
 | [],_ :: _,_,s,_,_,_=>by cases s
 | _ :: _,[],_,s,_,_,_=>by cases s
 | _ :: _,_ :: _,[],_,s',_,_=>by cases s'
 | x :: xs,y :: ys,z :: zs,s,s',h,h'=>by
  have s1:cX x=cX y:=by simpa using congrArg List.head? s
  have s2:shape xs=shape ys:=by simpa using congrArg List.tail s
  have s3:cX y=cX z:=by simpa using congrArg List.head? s'
  have s4:shape ys=shape zs:=by simpa using congrArg List.tail s'
  unfold bR at h h' ⊢
  by_cases e:y=x
  ·subst e;rw [if_pos rfl] at h
   by_cases e':z=y
   ·subst e';rw [if_pos rfl] at h' ⊢;exact kO s2 s4 h h'
   ·rw [if_neg e'] at h' ⊢;exact h'
  ·rw [if_neg e] at h
   by_cases e':z=y
   ·subst e';rw [if_neg e];exact h
   ·rw [if_neg e'] at h'
    by_cases e2:z=x
    ·subst e2;exfalso;exact e (yI s3 h h')
    ·rw [if_neg e2];exact JM s1 s3 h h'
end L2
namespace L2
open PySem PySem.W PyProof.Rows
section
variable (lt:Nat->Nat->Bool)
noncomputable def evT {α:Type}:KasT α->α
 | .ret a=>a
 | .ask i j k=>evT (k (lt i j))
theorem iD {α β:Type} (f:α->KasT β):∀ t:KasT α,evT lt (t.bind f)=evT lt (f (evT lt t))
 | .ret _=>rfl
 | .ask i j k=>iD f (k (lt i j))
noncomputable abbrev pa' (p:Array Nat) (i:Nat):Nat:=p.getD i 0
noncomputable def STo (p:Array Nat) (k:Nat):Prop:=∀ i j,i<=j->j < k->lt (pa' p j) (pa' p i)=false
noncomputable def NIc (p:Array Nat) (k:Nat):Prop:=∀ i j,i<=j->j < k->lt (pa' p i) (pa' p j)=false
end
theorem fT {p:Array Nat} {i:Nat}:pa' p i=(p[i]?).getD 0:=by
 unfold pa';simp [Array.getD_eq_getD_getElem?]
structure JN (lt:Nat->Nat->Bool) (p:Array Nat) (n f:Nat) (r:Array Nat×Nat×Nat):Prop where
 perm:r.1.Perm p
 lo:n<=r.2.1
 hi:r.2.1<=n+f
 q:r.2.2+1<=r.2.1
 ni:NIc lt r.1 r.2.1
 eq:∀ i j,r.2.1 - (r.2.2+1)<=i->i < r.2.1->r.2.1 - (r.2.2+1)<=j->j < r.2.1->lt (pa' r.1 i) (pa' r.1 j)=false
section
variable {lt:Nat->Nat->Bool} (tr:∀ i j k,lt j i=false->lt k j=false->lt k i=false) (as:∀ i j,lt i j=true->lt j i=false)
include as in
theorem fD (i:Nat):lt i i=false:=by
 cases h:lt i i with
 | false=>rfl
 | true=>have:=as i i h; rw [h] at this; exact this
include tr as
theorem E5 (p:Array Nat):∀ f n,1<=n->STo lt p n->n<=evT lt (kas_asc p f n)/\evT lt (kas_asc p f n)<=n+f/\STo lt p (evT lt (kas_asc p f n))
 | 0,n,_,h=>⟨ai _,ai _,h⟩
 | f+1,n,h1,h=>by
  have e:evT lt (kas_asc p (f+1) n)=evT lt (if lt (p.getD n 0) (p.getD (n - 1) 0)=true then KasT.ret n else kas_asc p f (n+1)):=rfl;rw [e]
  by_cases c:lt (p.getD n 0) (p.getD (n - 1) 0)=true
  ·rw [if_pos c];exact ⟨ai _,Nat.le_add_right _ _,h⟩
  ·rw [if_neg c];have c':lt (p.getD n 0) (p.getD (n - 1) 0)=false:=by simpa using c
   have h2:STo lt p (n+1):=fun i j hij hj=>by
    rcases fv (Nat.le_of_lt_succ hj) with hj | rfl
    ·exact h i j hij hj
    ·rcases fv hij with hi | rfl
     ·exact tr _ _ _ (h i (j - 1) (by omega) (by omega)) c'
     ·exact fD as _
   obtain ⟨a,b,c⟩:=E5 p f (n+1) (by omega) h2;exact ⟨by omega,by omega,c⟩
theorem rev_eq {p:Array Nat} {a n:Nat} (hn:n<=p.size) (eq:∀ i j,a<=i->i < n->a<=j->j < n->lt (pa' p i) (pa' p j)=false) (i j:Nat):
  lt (pa' (kas_rev p a n) i) (pa' (kas_rev p a n) j)=lt (pa' p i) (pa' p j):=by
 have g:∀ k,pa' (kas_rev p a n) k=if a<=k/\k < n then pa' p (a+n - 1 - k) else pa' p k:=fun k=>by
  rw [fT,fT,fT];unfold kas_rev;rw [getElem?_mirror_all hn];split <;> rfl
 have sim:∀ k,∃ k',pa' (kas_rev p a n) k=pa' p k'/\lt (pa' p k) (pa' p k')=false/\lt (pa' p k') (pa' p k)=false:=fun k=>by
  rw [g]
  by_cases h:a<=k/\k < n
  ·rw [if_pos h];exact ⟨_,rfl,eq _ _ h.1 h.2 (by omega) (by omega),eq _ _ (by omega) (by omega) h.1 h.2⟩
  ·rw [if_neg h];exact ⟨k,rfl,fD as _,fD as _⟩
 obtain ⟨i',ei,i1,i2⟩:=sim i;obtain ⟨j',ej,j1,j2⟩:=sim j;rw [ei,ej];cases h1:lt (pa' p i) (pa' p j) with
 | false=>exact tr _ _ _ j1 (tr _ _ _ h1 i2)
 | true=>
  cases h2:lt (pa' p i') (pa' p j') with
  | true=>rfl
  | false=>
   have:=tr _ _ _ j2 (tr _ _ _ h2 i1);rw [h1] at this;exact this.symm
theorem Ar:∀ f (p:Array Nat) n q,n+f<=p.size->q+1<=n->NIc lt p n->(∀ i j,n - (q+1)<=i->i < n->n - (q+1)<=j->j < n->lt (pa' p i) (pa' p j)=false)->JN lt p n f (evT lt (kas_desc f p n q))
 | 0,p,n,q,_,hq,hN,hE=>⟨j8 _,ai _,ai _,hq,hN,hE⟩
 | f+1,p,n,q,hs,hq,hN,hE=>by
  have e:evT lt (kas_desc (f+1) p n q)=evT lt (if lt (p.getD n 0) (p.getD (n - 1) 0)=true then (if q > 0 then kas_desc f (kas_rev p (n - (q+1)) n) (n+1) 0 else kas_desc f p (n+1) 0)
    else .ask (p.getD (n - 1) 0) (p.getD n 0) fun d=>if d=true then .ret (p,n,q) else kas_desc f p (n+1) (q+1)):=rfl
  by_cases c:lt (p.getD n 0) (p.getD (n - 1) 0)=true
  ·have down:∀ p':Array Nat,p'.Perm p->(∀ i j,lt (pa' p' i) (pa' p' j)=lt (pa' p i) (pa' p j))->evT lt (kas_desc (f+1) p n q)=evT lt (kas_desc f p' (n+1) 0)->JN lt p n (f+1) (evT lt (kas_desc (f+1) p n q)):=fun p' hp hl hev=>by
    have hN':NIc lt p' (n+1):=fun i j hij hj=>by
     rw [hl];rcases fv (Nat.le_of_lt_succ hj) with hj | rfl
     ·exact hN i j hij hj
     ·rcases fv hij with hi | rfl
      ·exact tr _ _ _ (as _ _ c) (hN i (j - 1) (by omega) (by omega))
      ·exact fD as _
    have hE':∀ i j,n+1 - (0+1)<=i->i < n+1->n+1 - (0+1)<=j->j < n+1->lt (pa' p' i) (pa' p' j)=false:=fun i j h1 h2 h3 h4=>by
     have:i=j:=by omega
     subst this;exact fD as _
    have ih:=Ar f p' (n+1) 0 (by rw [hp.size_eq]; omega) (by omega) hN' hE';rw [<- hev] at ih;obtain ⟨a1,a2,a3,a4,a5,a6⟩:=ih;exact ⟨a1.trans hp,by omega,by omega,a4,a5,a6⟩
   rw [if_pos c] at e
   by_cases hq0:q > 0
   ·rw [if_pos hq0] at e;exact down _ (j9 _ _ _ _) (rev_eq tr as (by omega) hE) e
   ·rw [if_neg hq0] at e;exact down p (j8 _) (fun _ _=>rfl) e
  ·rw [if_neg c] at e;have c':lt (p.getD n 0) (p.getD (n - 1) 0)=false:=by simpa using c
   have e2:evT lt (kas_desc (f+1) p n q)=evT lt (if lt (p.getD (n - 1) 0) (p.getD n 0)=true then KasT.ret (p,n,q) else kas_desc f p (n+1) (q+1)):=e
   by_cases d:lt (p.getD (n - 1) 0) (p.getD n 0)=true
   ·rw [if_pos d] at e2;rw [e2];exact ⟨j8 _,ai _,Nat.le_add_right _ _,hq,hN,hE⟩
   ·rw [if_neg d] at e2;have d':lt (p.getD (n - 1) 0) (p.getD n 0)=false:=by simpa using d
    have hN':NIc lt p (n+1):=fun i j hij hj=>by
     rcases fv (Nat.le_of_lt_succ hj) with hj | rfl
     ·exact hN i j hij hj
     ·rcases fv hij with hi | rfl
      ·exact tr _ _ _ d' (hN i (j - 1) (by omega) (by omega))
      ·exact fD as _
    have hE':∀ i j,n+1 - (q+1+1)<=i->i < n+1->n+1 - (q+1+1)<=j->j < n+1->lt (pa' p i) (pa' p j)=false:=fun i j h1 h2 h3 h4=>by
     by_cases hi:i=n
     ·by_cases hj:j=n
      ·rw [hi,hj]; exact fD as _
      ·rw [hi];exact tr _ _ _ (hE (n - 1) j (by omega) (by omega) (by omega) (by omega)) c'
     ·by_cases hj:j=n
      ·rw [hj];exact tr _ _ _ d' (hE i (n - 1) (by omega) (by omega) (by omega) (by omega))
      ·exact hE i j (by omega) (by omega) (by omega) (by omega)
    have ih:=Ar f p (n+1) (q+1) (by omega) (by omega) hN' hE';rw [<- e2] at ih;obtain ⟨a1,a2,a3,a4,a5,a6⟩:=ih;exact ⟨a1,by omega,by omega,a4,a5,a6⟩
theorem BW {n nrem:Nat} {p:Array Nat} (h1:1<=n) (hn:n<=nrem) (hz:nrem<=p.size) (hN:NIc lt p n):
  n<=(evT lt (kas_tail3 n nrem p)).1/\(evT lt (kas_tail3 n nrem p)).1<=nrem/\(evT lt (kas_tail3 n nrem p)).2.Perm p/\STo lt (evT lt (kas_tail3 n nrem p)).2 (evT lt (kas_tail3 n nrem p)).1:=by
 have e:evT lt (kas_tail3 n nrem p)=(evT lt (kas_asc (kas_rev p 0 n) (nrem - n) n),kas_rev p 0 n):=by
  unfold kas_tail3;rw [iD]; rfl
 have g:∀ k,k < n->pa' (kas_rev p 0 n) k=pa' p (n - 1 - k):=fun k hk=>by
  rw [fT,fT];unfold kas_rev;rw [getElem?_mirror_all (by omega),if_pos (by omega)]
  congr 2
  omega
 have hS:STo lt (kas_rev p 0 n) n:=fun i j hij hj=>by
  rw [g i (by omega),g j hj];exact hN _ _ (by omega) (by omega)
 obtain ⟨a,b,c⟩:=E5 tr as (kas_rev p 0 n) (nrem - n) n h1 hS;rw [e];exact ⟨a,by show evT lt (kas_asc (kas_rev p 0 n) (nrem - n) n)<=nrem; omega,j9 _ _ _ _,c⟩
theorem rO {n nrem:Nat} {p:Array Nat} (h1:1<=n) (hn:n+1<=nrem) (hz:nrem<=p.size) (hN:NIc lt p n) (hd:lt (pa' p n) (pa' p (n - 1))=true):
  1<=(evT lt (kas_descPart n nrem p)).1/\(evT lt (kas_descPart n nrem p)).1<=nrem/\(evT lt (kas_descPart n nrem p)).2.Perm p/\STo lt (evT lt (kas_descPart n nrem p)).2 (evT lt (kas_descPart n nrem p)).1:=by
 have hN':NIc lt p (n+1):=fun i j hij hj=>by
  rcases fv (Nat.le_of_lt_succ hj) with hj | rfl
  ·exact hN i j hij hj
  ·rcases fv hij with hi | rfl
   ·exact tr _ _ _ (as _ _ hd) (hN i (j - 1) (by omega) (by omega))
   ·exact fD as _
 have hE':∀ i j,n+1 - (0+1)<=i->i < n+1->n+1 - (0+1)<=j->j < n+1->lt (pa' p i) (pa' p j)=false:=fun i j h1 h2 h3 h4=>by
  have:i=j:=by omega
  subst this;exact fD as _
 have D:=Ar tr as (nrem - (n+1)) p (n+1) 0 (by omega) (by omega) hN' hE';have e:evT lt (kas_descPart n nrem p)=evT lt (if (evT lt (kas_desc (nrem - (n+1)) p (n+1) 0)).2.2 > 0 then kas_tail3 (evT lt (kas_desc (nrem - (n+1)) p (n+1) 0)).2.1 nrem (kas_rev (evT lt (kas_desc (nrem - (n+1)) p (n+1) 0)).1 ((evT lt (kas_desc (nrem - (n+1)) p (n+1) 0)).2.1 - ((evT lt (kas_desc (nrem - (n+1)) p (n+1) 0)).2.2+1)) (evT lt (kas_desc (nrem - (n+1)) p (n+1) 0)).2.1) else kas_tail3 (evT lt (kas_desc (nrem - (n+1)) p (n+1) 0)).2.1 nrem (evT lt (kas_desc (nrem - (n+1)) p (n+1) 0)).1):=by
  unfold kas_descPart;rw [iD]
 generalize evT lt (kas_desc (nrem - (n+1)) p (n+1) 0)=r at D e;obtain ⟨a1,a2,a3,a4,a5,a6⟩:=D;have sz:r.1.size=p.size:=a1.size_eq;rw [e]
 by_cases hq:r.2.2 > 0
 ·rw [if_pos hq];have hl:=rev_eq tr as (p:=r.1) (a:=r.2.1 - (r.2.2+1)) (n:=r.2.1) (by omega) a6;obtain ⟨b1,b2,b3,b4⟩:=BW tr as (n:=r.2.1) (nrem:=nrem) (p:=kas_rev r.1 (r.2.1 - (r.2.2+1)) r.2.1) (by omega) (by omega) (by unfold kas_rev; rw [mirror_size]; omega) (fun i j hij hj=>by rw [hl]; exact a5 i j hij hj);exact ⟨by omega,b2,(b3.trans (j9 _ _ _ _)).trans a1,b4⟩
 ·rw [if_neg hq];obtain ⟨b1,b2,b3,b4⟩:=BW tr as (n:=r.2.1) (nrem:=nrem) (p:=r.1) (by omega) (by omega) (by omega) a5;exact ⟨by omega,b2,b3.trans a1,b4⟩
theorem tR (p:Array Nat):∀ f n,1<=n->evT lt (kas_asc p f n) < n+f->lt (pa' p (evT lt (kas_asc p f n))) (pa' p (evT lt (kas_asc p f n) - 1))=true
 | 0,n,_,h=>absurd h (fj _)
 | f+1,n,h1,h=>by
  have e:evT lt (kas_asc p (f+1) n)=evT lt (if lt (p.getD n 0) (p.getD (n - 1) 0)=true then KasT.ret n else kas_asc p f (n+1)):=rfl;rw [e] at h ⊢
  by_cases c:lt (p.getD n 0) (p.getD (n - 1) 0)=true
  ·rw [if_pos c];exact c
  ·rw [if_neg c] at h ⊢;exact tR p f (n+1) (by omega) (by omega)
theorem JO {nrem:Nat} {p:Array Nat} (h1:1<=nrem) (hz:nrem<=p.size):
  1<=(evT lt (kas_count nrem p)).1/\(evT lt (kas_count nrem p)).1<=nrem/\(evT lt (kas_count nrem p)).2.Perm p/\STo lt (evT lt (kas_count nrem p)).2 (evT lt (kas_count nrem p)).1:=by
 have h0:STo lt p 1:=fun i j hij hj=>by
  have:i=j:=by omega
  subst this;exact fD as _
 obtain ⟨a,b,c⟩:=E5 tr as p (nrem - 1) 1 (ai _) h0;have stop:=tR tr as p (nrem - 1) 1 (ai _);have e:evT lt (kas_count nrem p)=evT lt (if (evT lt (kas_asc p (nrem - 1) 1) == nrem)=true then .ret (evT lt (kas_asc p (nrem - 1) 1),p) else if evT lt (kas_asc p (nrem - 1) 1) > 1 then .ask (p.getD 0 0) (p.getD (evT lt (kas_asc p (nrem - 1) 1) - 1) 0) fun c=>if c=true then .ret (evT lt (kas_asc p (nrem - 1) 1),p) else kas_descPart (evT lt (kas_asc p (nrem - 1) 1)) nrem (kas_rev p 0 (evT lt (kas_asc p (nrem - 1) 1))) else kas_descPart (evT lt (kas_asc p (nrem - 1) 1)) nrem p):=by
  unfold kas_count;rw [iD]
 generalize evT lt (kas_asc p (nrem - 1) 1)=n at a b c e stop;rw [e]
 by_cases hn:(n == nrem)=true
 ·rw [if_pos hn];exact ⟨a,by show n<=nrem; omega,j8 _,c⟩
 ·rw [if_neg hn];have hn':n≠nrem:=by simpa using hn
  have st:=stop (by omega)
  by_cases h2:n > 1
  ·rw [if_pos h2];have e2:∀ k:Bool->KasT (Nat×Array Nat),evT lt (.ask (p.getD 0 0) (p.getD (n - 1) 0) k)=evT lt (k (lt (p.getD 0 0) (p.getD (n - 1) 0))):=fun _=>rfl;rw [e2]
   by_cases h3:lt (p.getD 0 0) (p.getD (n - 1) 0)=true
   ·rw [if_pos h3];exact ⟨a,by show n<=nrem; omega,j8 _,c⟩
   ·rw [if_neg h3];have h3':lt (pa' p 0) (pa' p (n - 1))=false:=by simpa using h3
    have eq:∀ i j,0<=i->i < n->0<=j->j < n->lt (pa' p i) (pa' p j)=false:=fun i j _ hi _ hj=>by
     exact tr _ _ _ (c j (n - 1) (by omega) (by omega)) (tr _ _ _ h3' (c 0 i (by omega) hi))
    have hl:=rev_eq tr as (p:=p) (a:=0) (n:=n) (by omega) eq;have g:pa' (kas_rev p 0 n) n=pa' p n:=by
     rw [fT,fT];unfold kas_rev;rw [getElem?_mirror_all (by omega),if_neg (by omega)]
    obtain ⟨b1,b2,b3,b4⟩:=rO tr as (n:=n) (nrem:=nrem) (p:=kas_rev p 0 n) a (by omega) (by unfold kas_rev; rw [mirror_size]; omega) (fun i j hij hj=>by rw [hl]; exact eq i j (by omega) (by omega) (by omega) hj) (by rw [hl]; exact st);exact ⟨b1,b2,b3.trans (j9 _ _ _ _),b4⟩
  ·rw [if_neg h2];have hn1:n=1:=by omega
   subst hn1;exact rO tr as (n:=1) (nrem:=nrem) (p:=p) (ai _) (by omega) hz (fun i j hij hj=>by
    have:i=j:=by omega
    subst this;exact fD as _) st
theorem tS (p:Array Nat) (k:Nat) (hS:STo lt p k):∀ f l r,r - l<=f->l<=r->r<=k->(∀ i,i < l->lt (pa' p k) (pa' p i)=false)->(∀ i,r<=i->i < k->lt (pa' p k) (pa' p i)=true)->
  l<=evT lt (kas_place p k f l r)/\evT lt (kas_place p k f l r)<=k/\(∀ i,i < evT lt (kas_place p k f l r)->lt (pa' p k) (pa' p i)=false)/\(∀ i,evT lt (kas_place p k f l r)<=i->i < k->lt (pa' p k) (pa' p i)=true)
 | 0,l,r,hf,hl,hr,h1,h2=>by
  have:l=r:=by omega
  subst this;exact ⟨ai _,hr,h1,h2⟩
 | f+1,l,r,hf,hl,hr,h1,h2=>by
  have e:evT lt (kas_place p k (f+1) l r)=evT lt (if l >= r then .ret l else .ask (p.getD k 0) (p.getD ((l+r) / 2) 0) fun c=>if c=true then kas_place p k f l ((l+r) / 2) else kas_place p k f ((l+r) / 2+1) r):=rfl;rw [e]
  by_cases hge:l >= r
  ·rw [if_pos hge];have:l=r:=by omega
   subst this;exact ⟨ai _,hr,h1,h2⟩
  ·rw [if_neg hge];have e2:∀ q:Bool->KasT Nat,evT lt (.ask (p.getD k 0) (p.getD ((l+r) / 2) 0) q)=evT lt (q (lt (p.getD k 0) (p.getD ((l+r) / 2) 0))):=fun _=>rfl;rw [e2]
   by_cases c:lt (p.getD k 0) (p.getD ((l+r) / 2) 0)=true
   ·rw [if_pos c];refine tS p k hS f l ((l+r) / 2) (by omega) (by omega) (by omega) h1 fun i hi hk=>?_;cases q:lt (pa' p k) (pa' p i) with
    | true=>rfl
    | false=>
     have:=tr _ _ _ (hS ((l+r) / 2) i hi hk) q;rw [show lt (pa' p k) (pa' p ((l+r) / 2))=true from c] at this
     exact this.symm
   ·rw [if_neg c];have c':lt (pa' p k) (pa' p ((l+r) / 2))=false:=by simpa using c
    obtain ⟨b1,b2,b3,b4⟩:=tS p k hS f ((l+r) / 2+1) r (by omega) (by omega) hr (fun i hi=>by
     cases q:lt (pa' p k) (pa' p i) with
     | false=>rfl
     | true=>
      exfalso;have s1:=hS i ((l+r) / 2) (by omega) (by omega);have s2:=as _ _ q;have:lt (pa' p k) (pa' p i)=false:=by
       -- p[mid]<=p[k] (c'),p[i]<=p[mid]
       exact tr _ _ _ s1 c'
      rw [q] at this;cases this) h2
    exact ⟨by omega,b2,b3,b4⟩
theorem JP:∀ f (p:Array Nat) k,1<=k->k+f<=p.size->STo lt p k->(evT lt (kas_bin f p k)).Perm p/\STo lt (evT lt (kas_bin f p k)) (k+f)
 | 0,p,k,_,_,h=>⟨j8 _,h⟩
 | f+1,p,k,h1,hz,h=>by
  have e:evT lt (kas_bin (f+1) p k)=evT lt (kas_bin f (bubble p k (k - evT lt (kas_place p k k 0 k))) (k+1)):=by
   show evT lt ((kas_place p k k 0 k).bind fun l=>kas_bin f (bubble p k (k - l)) (k+1))=_
   rw [iD]
  obtain ⟨b1,b2,b3,b4⟩:=tS tr as p k h k 0 k (by omega) (b8 _) (ai _) (fun i hi=>absurd hi (Nat.not_lt_zero _)) (fun i hi hk=>absurd hk (by omega));generalize evT lt (kas_place p k k 0 k)=l at e b1 b2 b3 b4;have g:∀ i,pa' (bubble p k (k - l)) i=if i=l then pa' p k else if l < i/\i<=k then pa' p (i - 1) else pa' p i:=fun i=>by
   rw [fT,fT,fT,fT,getElem?_bubble (by omega) _ (by omega)];have el:k - (k - l)=l:=by omega
   rw [el];split
   ·rfl
   ·split <;> rfl
  have hS:STo lt (bubble p k (k - l)) (k+1):=fun i j hij hj=>by
   rw [g i,g j]
   by_cases hj1:j=l
   ·by_cases hi1:i=l
    ·rw [if_pos hj1,if_pos hi1]; exact fD as _
    ·rw [if_pos hj1,if_neg hi1,if_neg (by omega)];exact b3 i (by omega)
   ·rw [if_neg hj1]
    by_cases hi1:i=l
    ·rw [if_pos hi1,if_pos (by omega)];exact as _ _ (b4 (j - 1) (by omega) (by omega))
    ·rw [if_neg hi1]
     by_cases hj2:l < j/\j<=k
     ·rw [if_pos hj2]
      by_cases hi2:l < i/\i<=k
      ·rw [if_pos hi2]; exact h _ _ (by omega) (by omega)
      ·rw [if_neg hi2]; exact h _ _ (by omega) (by omega)
     ·rw [if_neg hj2,if_neg (by omega)];exact h _ _ hij (by omega)
  have ih:=JP f (bubble p k (k - l)) (k+1) (by omega) (by rw [bubble_size]; omega) hS;rw [e];exact ⟨ih.1.trans (bubble_perm _ _ _),by rw [show k+(f+1)=k+1+f by omega]; exact ih.2⟩
theorem Nl {n:Nat} (h1:1<=n):(evT lt (kas_sort n)).toList.Perm (ax n)/\(evT lt (kas_sort n)).toList.Pairwise (fun i j=>lt j i=false):=by
 have e:evT lt (kas_sort n)=evT lt (if (evT lt (kas_count n (jl (ax n)))).1 < n then kas_bin (n - max (evT lt (kas_count n (jl (ax n)))).1 1) (evT lt (kas_count n (jl (ax n)))).2 (max (evT lt (kas_count n (jl (ax n)))).1 1) else .ret (evT lt (kas_count n (jl (ax n)))).2):=by
  unfold kas_sort;rw [iD]
 obtain ⟨a1,a2,a3,a4⟩:=JO tr as (nrem:=n) (p:=jl (ax n)) h1 (by simp);generalize evT lt (kas_count n (jl (ax n)))=r at e a1 a2 a3 a4;have fin:∀ p:Array Nat,p.Perm (jl (ax n))->STo lt p n->p.toList.Perm (ax n)/\p.toList.Pairwise (fun i j=>lt j i=false):=fun p hp hs=>by
  have hsz:p.size=n:=by rw [hp.size_eq]; simp
  refine ⟨by simpa using Array.perm_iff_toList_perm.mp hp,?_⟩
  rw [d5];intro i j hi hj hij;have hi':i < p.size:=by simpa using hi
  have hj':j < p.size:=by simpa using hj
  have:=hs i j (iw hij) (by omega);simpa [pa',Array.getD,hi',hj'] using this
 rw [e]
 by_cases hlt:r.1 < n
 ·rw [if_pos hlt];have hm:max r.1 1=r.1:=by omega
  rw [hm];obtain ⟨b1,b2⟩:=JP tr as (n - r.1) r.2 r.1 a1 (by rw [a3.size_eq]; simp; omega) a4;refine fin _ (b1.trans a3) ?_;rw [show r.1+(n - r.1)=n by omega] at b2;exact b2
 ·rw [if_neg hlt];have:r.1=n:=by omega
  exact fin _ a3 (this ▸ a4)
end
end L2
namespace L2
open PySem PySem.Spec PyProof.Rows PySem.SeqAt PySem.W
noncomputable def InP {α:Type} (n:Nat) (P:α->Prop):KasT α->Prop
 | .ret a=>P a
 | .ask i j k=>i < n/\j < n/\∀ b,InP n P (k b)
theorem InP.bind {α β:Type} {n:Nat} {P:α->Prop} {Q:β->Prop} {f:α->KasT β}:∀ {t:KasT α},InP n P t->(∀ a,P a->InP n Q (f a))->InP n Q (t.bind f)
 | .ret a,h,hf=>hf a h
 | .ask i j k,⟨h1,h2,h3⟩,hf=>⟨h1,h2,fun b=>InP.bind (h3 b) hf⟩
theorem InP.mono {α:Type} {n:Nat} {P Q:α->Prop} (hq:∀ a,P a->Q a):∀ {t:KasT α},InP n P t->InP n Q t
 | .ret a,h=>hq a h
 | .ask i j k,⟨h1,h2,h3⟩=>⟨h1,h2,fun b=>InP.mono hq (h3 b)⟩
noncomputable def AllLt (n:Nat) (p:Array Nat):Prop:=∀ k,p.getD k 0 < n
theorem AllLt.of {n:Nat} {p q:Array Nat} (h:AllLt n p) (g:∀ k:Nat,q[k]?=none\/∃ k':Nat,q[k]?=p[k']?) (hn:0 < n):AllLt n q:=fun k=>by
 have e:∀ (r:Array Nat) k,r.getD k 0=(r[k]?).getD 0:=fun r k=>by simp [Array.getD_eq_getD_getElem?]
 rw [e];rcases g k with h1 | ⟨k',h1⟩
 ·rw [h1]; exact hn
 ·rw [h1,<- e]; exact h k'
theorem AllLt.perm {n:Nat} {p q:Array Nat} (h:AllLt n p) (hp:q.Perm p) (hn:0 < n):AllLt n q:=by
 refine AllLt.of h (fun k=>?_) hn;cases e:q[k]? with
 | none=>exact .inl rfl
 | some v=>
  right;have hm:v∈q.toList:=by
   have:q.toList[k]?=some v:=by simpa using e
   exact cy this
  have hm':v∈p.toList:=(Array.perm_iff_toList_perm.mp hp).mem_iff.mp hm;obtain ⟨k',hk⟩:=dr.mp hm';exact ⟨k',by rw [<- hk]; simp⟩
section
variable {n:Nat} (hn:0 < n)
include hn
theorem As {p:Array Nat} (h:AllLt n p):∀ f m,InP n (fun _=>True) (kas_asc p f m)
 | 0,m=>trivial
 | f+1,m=>⟨h _,h _,fun b=>by
  cases b with
  | true=>exact trivial
  | false=>exact As h f (m+1)⟩
theorem nL:∀ f (p:Array Nat) m q,AllLt n p->InP n (fun r=>AllLt n r.1) (kas_desc f p m q)
 | 0,p,m,q,h=>h
 | f+1,p,m,q,h=>⟨h _,h _,fun b=>by
  cases b with
  | true=>
   show InP n _ (if q > 0 then kas_desc f (kas_rev p (m - (q+1)) m) (m+1) 0 else kas_desc f p (m+1) 0)
   by_cases hq:q > 0
   ·rw [if_pos hq]; exact nL f _ _ _ (h.perm (j9 _ _ _ _) hn)
   ·rw [if_neg hq]; exact nL f _ _ _ h
  | false=>exact ⟨h _,h _,fun d=>by
    cases d with
    | true=>exact h
    | false=>exact nL f _ _ _ h⟩⟩
theorem yJ {p:Array Nat} (h:AllLt n p) (m r:Nat):InP n (fun x=>AllLt n x.2) (kas_tail3 m r p):=by
 unfold kas_tail3;exact InP.bind (As hn (h.perm (j9 _ _ _ _) hn) _ _) fun a _=>h.perm (j9 _ _ _ _) hn
theorem nM {p:Array Nat} (h:AllLt n p) (m r:Nat):InP n (fun x=>AllLt n x.2) (kas_descPart m r p):=by
 unfold kas_descPart;refine InP.bind (nL hn _ _ _ _ h) fun a ha=>?_
 by_cases hq:a.2.2 > 0
 ·rw [if_pos hq]; exact yJ hn (ha.perm (j9 _ _ _ _) hn) _ _
 ·rw [if_neg hq]; exact yJ hn ha _ _
theorem Hf {p:Array Nat} (h:AllLt n p) (r:Nat):InP n (fun x=>AllLt n x.2) (kas_count r p):=by
 unfold kas_count;refine InP.bind (As hn h _ _) fun a _=>?_
 by_cases h1:(a == r)=true
 ·rw [if_pos h1]; exact h
 ·rw [if_neg h1]
  by_cases h2:a > 1
  ·rw [if_pos h2];exact ⟨h _,h _,fun b=>by
    cases b with
    | true=>exact h
    | false=>exact nM hn (h.perm (j9 _ _ _ _) hn) _ _⟩
  ·rw [if_neg h2]; exact nM hn h _ _
theorem pT {p:Array Nat} (h:AllLt n p) (k:Nat):∀ f l r,InP n (fun _=>True) (kas_place p k f l r)
 | 0,l,r=>trivial
 | f+1,l,r=>by
  show InP n _ (if l >= r then .ret l else .ask (p.getD k 0) (p.getD ((l+r) / 2) 0) fun c=>if c=true then kas_place p k f l ((l+r) / 2) else kas_place p k f ((l+r) / 2+1) r)
  by_cases hl:l >= r
  ·rw [if_pos hl]; exact trivial
  ·rw [if_neg hl];exact ⟨h _,h _,fun b=>by
    cases b with
    | true=>exact pT h k f _ _
    | false=>exact pT h k f _ _⟩
theorem G2:∀ f (p:Array Nat) k,AllLt n p->InP n (fun _=>True) (kas_bin f p k)
 | 0,p,k,_=>trivial
 | f+1,p,k,h=>InP.bind (pT hn h k _ _ _) fun l _=>G2 f _ _ (h.perm (bubble_perm _ _ _) hn)
theorem tT:InP n (fun _=>True) (kas_sort n):=by
 have h0:AllLt n (jl (ax n)):=fun k=>by
  by_cases hk:k < n
  ·simp [Array.getD,hk]
  ·simp [Array.getD,hk,hn]
 unfold kas_sort;refine InP.bind (Hf hn h0 n) fun r hr=>?_
 by_cases h:r.1 < n
 ·rw [if_pos h]; exact G2 hn _ _ _ hr
 ·rw [if_neg h]; exact trivial
end
theorem tU {α:Type} {n:Nat} {cmp:Nat->Nat->(Bool->Shared->Prop)->Shared->Prop} {lt:Nat->Nat->Bool} {s:Shared} (hc:∀ i j C,i < n->j < n->C (lt i j) s->cmp i j C s) {Q:α->Shared->Prop} {P:α->Prop}:
  ∀ {t:KasT α},InP n P t->Q (evT lt t) s->t.kasWp cmp Q s
 | .ret _,_,h=>h
 | .ask i j k,⟨h1,h2,h3⟩,h=>hc i j _ h1 h2 (tU hc (h3 _) h)
noncomputable def ltX (n:Nat) (lt:Nat->Nat->Bool) (i j:Nat):Bool:=if i < n then (if j < n then lt i j else true) else false
theorem Qx {n:Nat} {lt:Nat->Nat->Bool} (tr:∀ i j k,i < n->j < n->k < n->lt j i=false->lt k j=false->lt k i=false) (i j k:Nat) (h1:ltX n lt j i=false) (h2:ltX n lt k j=false):ltX n lt k i=false:=by
 unfold ltX at*
 by_cases hi:i < n <;> by_cases hj:j < n <;> by_cases hk:k < n <;> simp only [hi,hj,hk,if_true,if_false] at h1 h2 ⊢ <;> first | exact tr i j k hi hj hk h1 h2 | exact absurd h2 (by decide) | exact absurd h1 (by decide) | rfl
theorem Qy {n:Nat} {lt:Nat->Nat->Bool} (as:∀ i j,i < n->j < n->lt i j=true->lt j i=false) (i j:Nat) (h:ltX n lt i j=true):ltX n lt j i=false:=by
 unfold ltX at*
 by_cases hi:i < n <;> by_cases hj:j < n <;> simp only [hi,hj,if_true,if_false] at h ⊢ <;> first | exact as i j hi hj h | exact absurd h (by decide) | rfl
theorem yK {α:Type} {n:Nat} {lt lt':Nat->Nat->Bool} (h:∀ i j,i < n->j < n->lt i j=lt' i j) {P:α->Prop}:∀ {t:KasT α},InP n P t->evT lt t=evT lt' t
 | .ret _,_=>rfl
 | .ask i j k,⟨h1,h2,h3⟩=>by
  show evT lt (k (lt i j))=evT lt' (k (lt' i j))
  rw [h i j h1 h2];exact yK h (h3 _)
theorem BX {n:Nat} {lt:Nat->Nat->Bool} (tr:∀ i j k,i < n->j < n->k < n->lt j i=false->lt k j=false->lt k i=false) (as:∀ i j,i < n->j < n->lt i j=true->lt j i=false) (h1:1<=n):
  (evT lt (kas_sort n)).toList.Perm (ax n)/\(evT lt (kas_sort n)).toList.Pairwise (fun i j=>lt j i=false):=by
 have e:evT lt (kas_sort n)=evT (ltX n lt) (kas_sort n):=yK (fun i j hi hj=>by unfold ltX; rw [if_pos hi,if_pos hj]) (tT (by omega));obtain ⟨a,b⟩:=Nl (lt:=ltX n lt) (Qx tr) (Qy as) h1;rw [e];refine ⟨a,b.imp_of_mem fun {i j} hi hj h=>?_⟩;have hi':i < n:=by simpa using a.mem_iff.mp hi
 have hj':j < n:=by simpa using a.mem_iff.mp hj
 unfold ltX at h;rw [if_pos hj',if_pos hi'] at h;exact h
section
variable {prog:Program} {w:World} {A:Around} {E:Value->Shared->Prop} {s:Shared}
theorem sI {a:Addr} {vs:List Value} {n:Nat} {κ:SortKind} {P:PySem.Fin->Shared->Prop} (lt:Nat->Nat->Bool) (tr:∀ i j k,i < vs.length->j < vs.length->k < vs.length->lt j i=false->lt k j=false->lt k i=false) (as:∀ i j,i < vs.length->j < vs.length->lt i j=true->lt j i=false)
  (ho:s.heap.get? a=some (seqObj "list" vs.toArray n)) (h64:vs.length < 64)
  (hk:∀ s':Shared,(∀ b o,b≠a->s.heap.get? b=some o->s'.heap.get? b=some o)->∀ Q:SortKind->Shared->Prop,Q κ s'->wpAny (model prog w) A (keyKind' vs.toArray) Q E s')
  (hlt:∀ s':Shared,(∀ b o,b≠a->s.heap.get? b=some o->s'.heap.get? b=some o)->∀ i j,i < vs.length->j < vs.length->∀ Q:Bool->Shared->Prop,Q (lt i j) s'->wpAny (model prog w) A (keyLt' κ (vs.getD i cq) (vs.getD j cq)) Q (fun _ _=>False) s')
  (h:∀ p:List Nat,p.Perm (ax vs.length)->p.Pairwise (fun i j=>lt j i=false)->P (.done (.ret .none)) { s with heap:=sortedHeap s.heap a vs (p.map fun i=>vs.getD i cq).toArray }):
  wpAny (model prog w) A (Builtin.«list.sort» ⟨[.ref a],[]⟩) P E s:=by
 rw [list_sort_plain];have ha:a < s.heap.objs.size:=aw ho;refine aa (listItems_at ho rfl ?_);refine aa (i3 ho rfl ?_ (by rw [ar,c3]; omega) (b8 _));obtain ⟨e1,ho1⟩:∃ e1,(s.heap.update a (cu fun _=>#[])).get? a=some (seqObj "list" #[] e1):=⟨_,ik ho (fun _=>#[])⟩;refine aa (seqEpoch_at ho1 rfl ?_);refine aa (wpAny_newTuple ?_ (by show vs.length<=_; rw [c3]; omega));refine aa (wpAny_newList ?_ (b8 _));refine da ?_;have ho6:(((s.heap.update a (cu fun _=>#[])).push (seqObj "tuple" vs.toArray 0)).push (seqObj "list" #[] 0)).get? a=some (seqObj "list" #[] e1):=by
  rw [jg _ _ _ (by rw [size_push',k4]; exact a9 (ki ha)),jg _ _ _ (by rw [k4]; exact a9 ha)];exact ho1
 have kept:∀ b o,b≠a->s.heap.get? b=some o->(((s.heap.update a (cu fun _=>#[])).push (seqObj "tuple" vs.toArray 0)).push (seqObj "list" #[] 0)).get? b=some o:=fun b o hb e=>
  ah _ (ah _ ((Heap.get?_update_other s.heap (cu fun _=>#[]) (i8 hb)).trans e))
 show wpAny (model prog w) A _ P E { s with heap:=((s.heap.update a (cu fun _=>#[])).push (seqObj "tuple" vs.toArray 0)).push (seqObj "list" #[] 0) }
 dsimp only;have hsz:vs.toArray.size=vs.length:=by simp
 by_cases h2:vs.toArray.size < 2
 ·rw [if_pos h2,if_pos h2];refine aa (ag ?_);rw [StateT.run_pure];refine aa (ag ?_);dsimp only;refine aa (seqEpoch_at ho6 rfl ?_);refine aa (i3 ho6 rfl ?_ (b8 _) (hsz2:=by rw [Array.size_map]; show (pairsOf vs).size<=_; rw [pairsOf_size,c3]; omega));simp only [bne_self_eq_false,dq,if_false];have e:(vs.toArray.zip vs.toArray).map (·.2)=((ax vs.length).map fun i=>vs.getD i cq).toArray:=by
   apply Array.toList_inj.mp;apply e8;intro i
   by_cases hi:i < vs.length
   ·simp [hi]
   ·simp [hi]
  have key:=h (ax vs.length) (List.Perm.refl _) (by
   rw [d5];intro i j hi hj hij;simp only [jh] at hi hj;omega)
  rw [<- e] at key;exact ag key
 ·rw [if_neg h2,if_neg h2];have h2':2<=vs.length:=by omega
  refine aa (hk _ kept _ ?_);refine aa (f7 (kat_run (ks:=vs) (vs:=vs) (E:=E) (Q:=fun st' s'=>s'={ s with heap:=((s.heap.update a (cu fun _=>#[])).push (seqObj "tuple" vs.toArray 0)).push (seqObj "list" #[] 0) }/\arrOf st'=(evT lt (kas_sort vs.length)).map (kas_item (vs.toArray.zip vs.toArray))/\failedOf st'=none)
   (G:=fun p s'=>p=evT lt (kas_sort vs.length)/\s'={ s with heap:=((s.heap.update a (cu fun _=>#[])).push (seqObj "tuple" vs.toArray 0)).push (seqObj "list" #[] 0) }) rfl h2' h64 (fun p st' s' _ a2 a3 a4=>⟨a4.2,by rw [a2,a4.1],a3⟩)
   (tU (n:=vs.length) (lt:=lt) (fun i j C hi hj hC=>hlt _ kept i j hi hj C hC) (tT (by omega)) ⟨rfl,rfl⟩)) ?_ fun _ _ e=>e)
  rintro ⟨⟨⟩,st'⟩ s' ⟨rfl,har,hf⟩;dsimp only;have hout:=kat_snds (ks:=vs) (vs:=vs) rfl har;obtain ⟨c1,c2⟩:=BX tr as (by omega);refine aa (seqEpoch_at ho6 rfl ?_);refine aa (i3 ho6 rfl ?_ (b8 _) (hsz2:=by
   have:(Array.map (fun x=>x.snd) (arrOf st')).size<=au:=by
    rw [hout,ar,ae,c1.length_eq,jh,c3];omega
   first | exact this | exact ji this))
  rw [hf];simp only [bne_self_eq_false,dq,if_false];have key:=h _ c1 c2;rw [<- hout] at key;exact ag key
end
noncomputable def kD:Key->D
 | .inl i=>.int i
 | .inr x=>.str x
noncomputable def tD (ks:List Key):D:=.tup (ks.map kD)
theorem Nm {K:af} {H:Hp} {k:Key} {v:V} (h:Rep K H (kD k) v):v=kV k:=by
 cases k <;> exact h
theorem Np {K:af} {H:Hp} (k:Key):Rep K H (kD k) (kV k):=by
 cases k <;> rfl
theorem yL {K:af} {H:Hp}:∀ {ks:List Key} {vs:List V},cG K H (ks.map kD) vs->vs=ks.map kV
 | [],[],_=>rfl
 | k :: ks,v :: vs,⟨h,r⟩=>by rw [Nm h,yL (ks:=ks) r]; rfl
 | [],_ :: _,h=>h.elim
 | _ :: _,[],h=>h.elim
theorem yM {K:af} {H:Hp}:∀ (ks:List Key),cG K H (ks.map kD) (ks.map kV)
 | []=>trivial
 | k :: ks=>⟨Np k,yM ks⟩
noncomputable abbrev eV (h:Heap):List Value->List (List Key)->Prop:=Paired fun v ks=>∃ a us,v=.ref a/\IsTup h a us.toArray/\aN (ks.map kV) us
theorem eV.kept {h h':Heap} (k:∀ b o,h.get? b=some o->h'.get? b=some o):∀ {vs:List Value} {kss:List (List Key)},eV h vs kss->eV h' vs kss
 | _,_,.nil=>.nil
 | _,_,.cons ⟨a,us,e,⟨o,ho,r⟩,q⟩ t=>.cons ⟨a,us,e,⟨o,k a o ho,r⟩,q⟩ (eV.kept k t)
theorem eV.get {h:Heap}:∀ {vs:List Value} {kss:List (List Key)} {i:Nat},eV h vs kss->i < vs.length->∃ a us,vs.getD i cq=.ref a/\IsTup h a us.toArray/\aN ((kss.getD i []).map kV) us
 | _,_,i,.nil,hi=>by simp at hi
 | _,_,0,.cons ⟨a,us,e,p,q⟩ t,hi=>⟨a,us,by simpa using e,p,by simpa using q⟩
 | _,_,i+1,.cons _ t,hi=>by
  obtain ⟨a,us,e,p,q⟩:=eV.get (i:=i) t (by simpa using hi)
  exact ⟨a,us,by simpa using e,p,by simpa using q⟩
theorem lZ {X:Cx} {pins:List (Addr×Obj)} {σ:St} {H:Hp} {s:Shared} (I:Inv X pins σ H s):∀ {kss:List (List Key)} {vs:List V} {us:List Value},cG X.K H (kss.map tD) vs->aN vs us->eV s.heap us kss
 | [],[],_,_,.nil=>.nil
 | ks :: kss,v :: vs,_,⟨⟨a,ws,e,q,r⟩,rs⟩,.cons rv rvs=>by
  subst e;cases rv
  obtain ⟨its,r2,p,_⟩:=I.tuple q;rw [yL r] at r2;exact .cons ⟨a,its,rfl,p,r2⟩ (lZ I rs rvs)
 | [],_ :: _,_,h,_=>h.elim
 | _ :: _,[],_,h,_=>h.elim
section
variable {prog:Program} {w:World} {A:Around} {E:Value->Shared->Prop} {s:Shared}
theorem jP {b:Bool} {Q:Bool->Shared->Prop}:∀ (ks ls:List Key) (us ws:List Value) (i:Nat),aN (ks.map kV) us->aN (ls.map kV) ws->shape ks=shape ls->Q (bR ks ls) s->KatLex prog w A b false Q (us.zip ws) i s
 | [],[],_,_,i,.nil,.nil,_,h=>h
 | [],_ :: _,_,_,_,_,_,e,_=>by cases e
 | _ :: _,[],_,_,_,_,_,e,_=>by cases e
 | x :: ks,y :: ls,_,_,i,.cons (b:=u) r1 t1,.cons (b:=v) r2 t2,e,h=>by
  have s1:cX x=cX y:=by simpa using congrArg List.head? e
  have s2:shape ks=shape ls:=by simpa using congrArg List.tail e
  rw [List.zip_cons_cons];unfold bR at h;cases x with
  | inl a=>
   cases y with
   | inr c=>cases s1
   | inl c=>
    obtain ⟨t,rfl⟩:=r1;obtain ⟨t',rfl⟩:=r2;refine kat_cons (EqAt.int_int a t c t' prog w _ _ ?_)
    by_cases ac:a=c
    ·subst ac;rw [if_pos rfl] at h;rw [beq_self_eq_true];exact kat_yes (jP ks ls _ _ (i+1) t1 t2 s2 h)
    ·rw [if_neg (fun z=>ac (Sum.inl.inj z))] at h;rw [beq_eq_false_iff_ne.mpr ac];refine kat_no ?_;cases hb:(b && i == 0) with
     | true=>exact oneLt_int h
     | false=>exact kat_one _ _ (lt_int (show PySem.W.BoolBack Q (.bool (decide (a < c))) s from h))
  | inr a=>
   cases y with
   | inl c=>cases s1
   | inr c=>
    obtain ⟨t,rfl⟩:=r1;obtain ⟨t',rfl⟩:=r2;refine kat_cons (EqAt.str_str a t c t' prog w _ _ ?_)
    by_cases ac:a=c
    ·subst ac;rw [if_pos rfl] at h;rw [beq_self_eq_true];exact kat_yes (jP ks ls _ _ (i+1) t1 t2 s2 h)
    ·rw [if_neg (fun z=>ac (Sum.inr.inj z))] at h;rw [beq_eq_false_iff_ne.mpr ac];refine kat_no ?_;cases hb:(b && i == 0) with
     | true=>exact oneLt_str h
     | false=>exact kat_one _ _ (lt_str (show PySem.W.BoolBack Q (.bool (decide (a.cps.toList < c.cps.toList))) s from h))
theorem tV {b:Bool} {x y:Addr} {us ws:List Value} {ks ls:List Key} {Q:Bool->Shared->Prop} (hx:IsTup s.heap x us.toArray) (hy:IsTup s.heap y ws.toArray) (r1:aN (ks.map kV) us) (r2:aN (ls.map kV) ws) (e:shape ks=shape ls) (h:Q (bR ks ls) s):
  wpAny (model prog w) A (keyLt' (tuples' b) (.ref x) (.ref y)) Q E s:=by
 obtain ⟨ox,hox,_,n,dx⟩:=hx;obtain ⟨oy,hoy,_,m,dy⟩:=hy;refine kat_lt hox dx hoy dy ?_;have l1:=r1.length;have l2:=r2.length;have l3:ks.length=ls.length:=by simpa using congrArg List.length e
 rw [ae] at l1 l2;have hf:decide (us.toArray.size < ws.toArray.size)=false:=decide_eq_false (by simp; omega);rw [hf];exact jP ks ls us ws 0 r1 r2 e h
theorem tW {h:Heap} {b:Bool} {sh:List Bool}:∀ {vs:List Value} {kss:List (List Key)},eV h vs kss->(∀ ks∈kss,shape ks=b :: sh)->∃ fs:List Value,fs.length=vs.length/\KatTups h vs fs/\∀ f∈fs,typeOf f=pure (.type (if b then "int" else "str"))
 | _,_,.nil,_=>⟨[],rfl,KatTups.nil,fun _ hf=>nomatch hf⟩
 | _,_,.cons (b:=ks) ⟨a,us,e,⟨o,ho,hc,n,hd⟩,r⟩ t,hs=>by
  obtain ⟨fs,hl,ht,hT⟩:=tW t fun x hx=>hs x (aq _ hx);have h0:=hs ks ak;subst e;cases ks with
  | nil=>cases h0
  | cons k ks=>
   cases r with
   | cons rk rks=>
    rename_i u us';have hk:cX k=b:=by simpa using congrArg List.head? h0
    refine ⟨u :: fs,by simp [hl],KatTups.cons ho hc hd (by simp) ht,fun f hf=>?_⟩;rcases bc.mp hf with rfl | hf
    ·cases k with
     | inl i=>obtain ⟨tk,rfl⟩:=rk; subst hk; rfl
     | inr x=>obtain ⟨tk,rfl⟩:=rk; subst hk; rfl
    ·exact hT f hf
theorem yN {vs:List Value} {kss:List (List Key)} {b:Bool} {sh:List Bool} {Q:SortKind->Shared->Prop} (t:eV s.heap vs kss) (hs:∀ ks∈kss,shape ks=b :: sh) (h0:0 < vs.length) (h:Q (tuples' true) s):wpAny (model prog w) A (keyKind' vs.toArray) Q E s:=by
 obtain ⟨fs,hl,ht,hT⟩:=tW t hs;refine kat_kind (T:=.type (if b then "int" else "str")) ht (by omega) (fun v hv=>by rw [hT v hv]; exact Looks.now) (by cases b <;> rfl) ?_;have:((Value.type (if b then "int" else "str")) != Value.type "tuple")=true:=by cases b <;> rfl
 rw [this];exact h
theorem pU {a:Addr} {n:Nat} {P:PySem.Fin->Shared->Prop} (ho:s.heap.get? a=some (seqObj "list" ([]:List Value).toArray n)) (h:P (.done (.ret .none)) { s with heap:=sortedHeap s.heap a [] #[] }):wpAny (model prog w) A (Builtin.«list.sort» ⟨[.ref a],[]⟩) P E s:=by
 rw [list_sort_plain];refine aa (listItems_at ho rfl ?_);refine aa (i3 ho rfl ?_ (b8 _) (b8 _));have ha:a < s.heap.objs.size:=aw ho;obtain ⟨e1,ho1⟩:∃ e1,(s.heap.update a (cu fun _=>#[])).get? a=some (seqObj "list" #[] e1):=⟨_,ik ho (fun _=>#[])⟩;refine aa (seqEpoch_at ho1 rfl ?_);refine aa (wpAny_newTuple ?_ (b8 _));refine aa (wpAny_newList ?_ (b8 _));refine da ?_;have ho6:(((s.heap.update a (cu fun _=>#[])).push (seqObj "tuple" ([]:List Value).toArray 0)).push (seqObj "list" #[] 0)).get? a=some (seqObj "list" #[] e1):=by
  rw [jg _ _ _ (by rw [size_push',k4]; exact a9 (ki ha)),jg _ _ _ (by rw [k4]; exact a9 ha)];exact ho1
 show wpAny (model prog w) A _ P E { s with heap:=((s.heap.update a (cu fun _=>#[])).push (seqObj "tuple" ([]:List Value).toArray 0)).push (seqObj "list" #[] 0) }
 dsimp only;rw [if_pos (by decide),if_pos (by decide)];refine aa (ag ?_);rw [StateT.run_pure];refine aa (ag ?_);dsimp only;refine aa (seqEpoch_at ho6 rfl ?_);have e0:(Array.map (fun x=>x.snd) (arrOf (SortSt.mk' general' ((#[]:Array Value).zip (#[]:Array Value)) #[] 7 none)))=(#[]:Array Value):=by
  show Array.map (fun x=>x.snd) ((#[]:Array Value).zip (#[]:Array Value))=#[]
  simp
 refine aa (i3 ho6 rfl ?_ (b8 _) (hsz2:=by
  have e1:(Array.map (fun x=>x.snd) (arrOf (SortSt.mk' general' ((#[]:Array Value).zip (#[]:Array Value)) #[] 7 none))).size=0:=by rw [e0]; rfl
  first | exact c9 (Nat.le_of_eq e1) (b8 _) | (show _<=_; omega)))
 simp only [bne_self_eq_false,dq,if_false];refine ag ?_
 show P (.done (.ret .none)) { s with heap:=(((s.heap.update a (cu fun x=>#[])).push (seqObj "tuple" ([]:List Value).toArray 0)).push (seqObj "list" #[] 0)).update a (cu fun x=>Array.map (fun x=>x.snd) (arrOf (SortSt.mk' general' ((#[]:Array Value).zip (#[]:Array Value)) #[] 7 none))) }
 rw [e0];exact h
theorem Hg {v:Value} {Q:Value->Shared->Prop} {κ:SortKind} (Col:List Value->Shared->Prop) (hc:wpAny (model prog w) A.in1 (collect v) Col E s)
  (h:∀ vs s1,Col vs s1->vs.length < 64/\∃ lt:Nat->Nat->Bool,(∀ i j k,i < vs.length->j < vs.length->k < vs.length->lt j i=false->lt k j=false->lt k i=false)/\(∀ i j,i < vs.length->j < vs.length->lt i j=true->lt j i=false)/\
   (∀ (A':Around) (s':Shared),(∀ b o,s1.heap.get? b=some o->s'.heap.get? b=some o)->0 < vs.length->∀ (Q:SortKind->Shared->Prop) E',Q κ s'->wpAny (model prog w) A' (keyKind' vs.toArray) Q E' s')/\
   (∀ (s':Shared),(∀ b o,s1.heap.get? b=some o->s'.heap.get? b=some o)->∀ i j,i < vs.length->j < vs.length->∀ Q:Bool->Shared->Prop,Q (lt i j) s'->wpAny (model prog w) A.in1.in1 (keyLt' κ (vs.getD i cq) (vs.getD j cq)) Q (fun _ _=>False) s')/\
   ∀ (p:List Nat) (h':Heap) (e:Nat),p.Perm (ax vs.length)->p.Pairwise (fun i j=>lt j i=false)->(∀ b o,s1.heap.get? b=some o->h'.get? b=some o)->h'.get? s1.heap.objs.size=some (seqObj "list" (p.map fun i=>vs.getD i cq).toArray e)->Q (.ref s1.heap.objs.size) { s1 with heap:=h' }):
  wpAny (model prog w) A (call (.builtin "sorted") [v]) Q E s:=by
 refine Calls.call_function_entry kind_sorted plain_sorted entry_sorted (args_sorted1 _) ?_;unfold Builtin.«sorted»;refine aa (m:=checkCount "sorted" 1 1 _) (ag ?_);refine aa (f7 hc (fun vs s1 c=>?_) fun _ _ x=>x);obtain ⟨h64,lt,tr,as,hk,hlt,fin⟩:=h vs s1 c;refine aa (wpAny_newList ?_ (by rw [c3]; omega));have hoL:(s1.heap.push (seqObj "list" vs.toArray 0)).get? s1.heap.objs.size=some (seqObj "list" vs.toArray 0):=ay _ rfl;have keep:∀ b o,s1.heap.get? b=some o->b≠s1.heap.objs.size/\(s1.heap.push (seqObj "list" vs.toArray 0)).get? b=some o:=fun b o q=>⟨a9 (aw q),ah _ q⟩
 show wpAny _ _ _ _ _ { s1 with heap:=s1.heap.push (seqObj "list" vs.toArray 0) }
 refine aa (da (ir slot_list_sort ⟨_,hoL,rfl⟩ entry_list_sort ?_ (args_list_sort _)));have tree:wpAny (model prog w) A.in1.in1 (Builtin.«list.sort» ⟨[.ref s1.heap.objs.size],[]⟩) (fun r s'=>∃ p:List Nat,r=.done (.ret .none)/\p.Perm (ax vs.length)/\p.Pairwise (fun i j=>lt j i=false)/\s'={ s1 with heap:=sortedHeap (s1.heap.push (seqObj "list" vs.toArray 0)) s1.heap.objs.size vs (p.map fun i=>vs.getD i cq).toArray }) E { s1 with heap:=s1.heap.push (seqObj "list" vs.toArray 0) }:=by
  by_cases h0:0 < vs.length
  ·exact sI (κ:=κ) lt tr as hoL h64 (fun s' kp Q hq=>hk _ s' (fun b o e=>kp b o (keep b o e).1 (keep b o e).2) h0 Q _ hq) (fun s' kp i j hi hj Q hq=>hlt s' (fun b o e=>kp b o (keep b o e).1 (keep b o e).2) i j hi hj Q hq) fun p a1 a2=>⟨p,rfl,a1,a2,rfl⟩
  ·have e0:vs=[]:=List.length_eq_zero_iff.mp (by omega);subst e0;exact pU hoL ⟨[],rfl,List.Perm.refl _,l8,rfl⟩
 refine f7 tree (fun r s' hr=>?_) fun _ _ x=>x;obtain ⟨p,rfl,a1,a2,rfl⟩:=hr;refine ⟨_,rfl,ag ⟨_,rfl,?_⟩⟩;obtain ⟨e,he⟩:=sortedHeap_at (h:=s1.heap.push (seqObj "list" vs.toArray 0)) (out:=(p.map fun i=>vs.getD i cq).toArray) hoL;exact fin p _ e a1 a2 (fun b o q=>(sortedHeap_old (keep b o q).1 (by rw [size_push']; exact ki (aw q))).trans (keep b o q).2) he
end
noncomputable def pV (H:Hp) (ps:List (Addr×List V)):Hp:=fun b=>match ps.lookup b with
 | some xs=>some (.tup xs)
 | none=>H b
theorem rP {κ:Type} {x:Addr} {k:κ}:∀ {l:List (Addr×κ)},l.lookup x=some k->(x,k)∈l
 | [],h=>by simp at h
 | (n,v) :: r,h=>by
  by_cases hx:x=n
  ·subst hx;simp only [bw,beq_self_eq_true] at h;cases h
   exact ak
  ·have:(x == n)=false:=by simpa using hx
   simp only [bw,this] at h;exact aq _ (rP h)
theorem nN {κ:Type} {x:Addr}:∀ {l:List (Addr×κ)},(∀ p∈l,p.1≠x)->l.lookup x=none
 | [],_=>rfl
 | (n,v) :: r,h=>by
  have hx:(x == n)=false:=by
   have:=h (n,v) ak;simpa using fun e:x=n=>this e.symm
  simp only [bw,hx];exact nN fun p hp=>h p (aq _ hp)
theorem BY {H:Hp} {ps:List (Addr×List V)} {b:Addr} (h:∀ p∈ps,p.1≠b):pV H ps b=H b:=by
 unfold pV; rw [nN h]
theorem BZ {H:Hp}:∀ {ps:List (Addr×List V)} {j:Nat} {a:Addr} {xs:List V},(ps.map (·.1)).Nodup->ps[j]?=some (a,xs)->pV H ps a=some (.tup xs)
 | [],_,_,_,_,h=>by simp at h
 | (n,v) :: r,0,a,xs,_,h=>by
  simp at h;obtain ⟨rfl,rfl⟩:=h;unfold pV;simp [bw]
 | (n,v) :: r,j+1,a,xs,nd,h=>by
  have nd':(n :: r.map (·.1)).Nodup:=nd;obtain ⟨n1,n2⟩:=gg.mp nd';have h':r[j]?=some (a,xs):=by simpa using h
  have ne:(a == n)=false:=by
   have:a∈r.map (·.1):=az.mpr ⟨_,cy h',rfl⟩;simpa using fun e:a=n=>n1 (e ▸ this)
  have ih:=BZ (H:=H) n2 h';unfold pV at ih ⊢;simp only [bw,ne];exact ih
section
variable {X:Cx} {pins:List (Addr×Obj)} {σ:St} {H:Hp} {s:Shared} {h':Heap}
theorem Inv.laidT {ps:List (Addr×List V)} {t':Nat} (I:Inv X pins σ H s) (k:∀ b u,s.heap.get? b=some u->h'.get? b=some u) (hp:∀ p∈ps,s.heap.objs.size<=p.1) (new:∀ p∈ps,p.2.length<=au/\∃ its:List Value,aN p.2 its/\nB h' p.1 its.toArray):
  Inv X pins σ (pV H ps) { s with heap:=h',toks:=t' }:=by
 have nb:∀ b,b < s.heap.objs.size->∀ p∈ps,p.1≠b:=fun b hb p hp' e=>fj _ (bh hb (e ▸ hp p hp'));have old:∀ b,b < s.heap.objs.size->pV H ps b=H b:=fun b hb=>BY (nb b hb);refine I.un ⟨fun b u q _ _ _=>k b u q,fun b u q _ _ _=>⟨u.slots,k b u q⟩,fun b u q n _=>(old b (aw q)).trans n,fun b u q _=>⟨u,k b u q⟩,fun b xs q=>(old b (I.hok.lt q)).trans q,fun b u xs q=>(old b (I.hok.lt q)).trans q,fun b ps' q=>⟨#[],by rw [old b (I.hok.lt q),q]; simp⟩⟩ ?_;intro b u e;unfold pV at e;cases q:ps.lookup b with
 | some xs=>
  rw [q] at e;cases e
  obtain ⟨z,its,r,p⟩:=new _ (rP q);exact ⟨z,its,r,p⟩
 | none=>
  rw [q] at e;have hb:=I.hok.lt e;exact (I.hok b u e).stay (fun c v _ q=>k c v q) (fun c q=>(old c (I.hok.lt q)).trans q) fun c xs q=>(old c (I.hok.lt q)).trans q
theorem Hh (I:Inv X pins σ H s) {ps:List (Addr×List V)} (hp:∀ p∈ps,s.heap.objs.size<=p.1):BO H (pV H ps):=fun b o e=>by
 have nb:∀ p∈ps,p.1≠b:=fun p hp' z=>fj _ (bh (I.hok.lt e) (z ▸ hp p hp'));rw [BY nb];exact e
end
noncomputable def E6 (v d:Addr):HO:=.ext fun h=>h.IsItemsView v d
section
variable {X:Cx}
noncomputable def JQ:V->List V->Hp->VK->Prop:=fun x xs H Q=>∃ d kvs,x=.ref d/\xs=[]/\H d=some (.dK kvs)/\∀ l,H l=none->Q (.ref l) (upd H l (E6 l d))
theorem JR:MtR X "dict.items" JQ:=by
 intro pins s σ H x xs v us Q I rx rv h;obtain ⟨d,kvs,rfl,rfl,hd,q⟩:=h;cases rx
 cases rv
 obtain ⟨z,y,vs,r,D⟩:=I.hok d _ hd;refine iz PySem.F.slot_dict_items D.typeIs PySem.F.entry_dict_items (PySem.F.args_dict_items_1 _) (meets_dict_items (bN X.prog X.w) d y) ⟨⟨vs,D⟩,?_⟩;refine ⟨.ref s.heap.objs.size,_,I.laid (t':=s.toks) (o:=E6 s.heap.objs.size d) (fun b u e=>ah _ e) (ai _) ?_,rfl,q _ I.fresh⟩;exact ⟨⟨_,ay _ rfl,rfl,rfl⟩,⟨_,ay _ rfl⟩,fun h1 h2 ⟨o,e,p⟩ k=>⟨o,k o e,p⟩⟩
noncomputable def Au (K:af) (kss:List (List Key)) (Q:VK) (H1:Hp):Prop:=∀ (l:Addr) (kss':List (List Key)) (vs':List V),H1 l=none->kss'.Perm kss->kss'.Pairwise (fun a b=>bR b a=false)->cG K H1 (kss'.map tD) vs'->Q (.ref l) (upd H1 l (.lst vs'))
noncomputable def Qz (K:af):List V->Hp->VK->Prop:=fun xs H Q=>∃ (p:Addr) (kss:List (List Key)) (sh:List Bool) (b:Bool),xs=[.ref p]/\kss.length < 64/\(∀ ks∈kss,shape ks=b :: sh)/\
 ((∃ vs,SqL K H p vs/\cG K H (kss.map tD) vs/\Au K kss Q H)\/
  (∃ d kvs,H p=some (E6 p d)/\H d=some (.dK kvs)/\kvs.map (fun kv=>[kV kv.1,kv.2])=kss.map (fun ks=>ks.map kV)/\∀ H1,BO H H1->Au K kss Q H1))
theorem yO {α:Type} {xs:List α} {d:α} {p:List Nat} (h:p.Perm (ax xs.length)):(p.map fun i=>xs.getD i d).Perm xs:=by
 have e:(ax xs.length).map (fun i=>xs.getD i d)=xs:=by
  apply e8;intro i
  by_cases hi:i < xs.length
  ·simp [hi]
  ·simp [hi]
 have:=h.map fun i=>xs.getD i d
 rwa [e] at this
theorem yP {K:af} {H:Hp} {ds:List D} {vs:List V} (r:cG K H ds vs):∀ {p:List Nat},(∀ i∈p,i < ds.length)->cG K H (p.map fun i=>ds.getD i .non) (p.map fun i=>vs.getD i .non)
 | [],_=>trivial
 | i :: p,h=>by
  have hi:=h i ak;have g:ds[i]?=some (ds.getD i .non):=by simp [hi]
  obtain ⟨v,hv,hr⟩:=r.at g;have e:vs.getD i .non=v:=by simp [fb,hv]
  refine ⟨?_,yP r fun j hj=>h j (aq _ hj)⟩
  show Rep K H (ds.getD i .non) (vs.getD i .non)
  rw [e];exact hr
theorem pW {vs:List V} {us:List Value} (r:aN vs us):∀ {p:List Nat},(∀ i∈p,i < vs.length)->aN (p.map fun i=>vs.getD i .non) (p.map fun i=>us.getD i cq)
 | [],_=>.nil
 | i :: p,h=>by
  have hi:=h i ak;have g:vs[i]?=some (vs.getD i .non):=by simp [hi]
  obtain ⟨u,hu,hr⟩:=r.get g;have e:us.getD i cq=u:=by simp [fb,hu]
  refine .cons ?_ (pW r fun j hj=>h j (aq _ hj))
  show RelV (vs.getD i .non) (us.getD i cq)
  rw [e];exact hr
theorem Av (hc:X.calm=true) (K:af) (hK:X.K=K):bT X (.builtin "sorted") (Qz K):=by
 subst hK;intro pins s σ H xs us Q I r h;obtain ⟨p,kss,sh,b,rfl,h64,hsh,h⟩:=h;obtain ⟨u,rfl,ru⟩:=vals1 r;cases ru
 have shOf:∀ i,i < kss.length->shape (kss.getD i [])=b :: sh:=fun i hi=>by
  have:kss.getD i []=kss[i]:=by simp [hi]
  rw [this];exact hsh _ (ee hi)
 refine Hg (κ:=tuples' true) (fun its s1=>∃ H1 vs,Inv X pins σ H1 s1/\aN vs its/\cG X.K H1 (kss.map tD) vs/\Au X.K kss Q H1) ?col ?fin
 case fin=>
  rintro its s1 ⟨H1,vs,I1,rv,rr,fin⟩;have l1:=rv.length;have l2:kss.length=vs.length:=by simpa using rr.length
  have hlen:its.length=kss.length:=by omega
  have tk:=lZ I1 rr rv;refine ⟨by omega,fun i j=>bR (kss.getD i []) (kss.getD j []),fun i j k hi hj hk h1 h2=>?_,fun i j _ _ h=>nK h,fun A' s' kp h0 Q' E' hq=>?_,fun s' kp i j hi hj Q' hq=>?_,fun q h' e a1 a2 kp he=>?_⟩
  ·exact kO ((shOf i (by omega)).trans (shOf j (by omega)).symm) ((shOf j (by omega)).trans (shOf k (by omega)).symm) h1 h2
  ·exact yN (tk.kept kp) hsh h0 hq
  ·obtain ⟨a,ua,e1,p1,r1⟩:=(tk.kept kp).get hi;obtain ⟨c,uc,e2,p2,r2⟩:=(tk.kept kp).get hj;rw [e1,e2];exact tV p1 p2 r1 r2 ((shOf i (by omega)).trans (shOf j (by omega)).symm) hq
  ·have hin:∀ i∈q,i < kss.length:=fun i hi=>by
    have:=a1.mem_iff.mp hi;rw [d4] at this;omega
   rw [hlen] at a1;have rr':=yP rr (p:=q) (fun i hi=>by rw [ae]; exact hin i hi);have em:(q.map fun i=>(kss.map tD).getD i .non)=(q.map fun i=>kss.getD i []).map tD:=by
    rw [bq];apply dw;intro i hi;have:=hin i hi;simp [this]
   rw [em] at rr';refine ⟨.ref s1.heap.objs.size,_,I1.laid (t':=s1.toks) (o:=.lst (q.map fun i=>vs.getD i .non)) kp (ai _) ?_,rfl,fin _ _ _ I1.fresh (yO a1) ?_ rr'⟩
   ·refine ⟨?_,q.map (fun i=>its.getD i cq),e,pW rv (fun i hi=>by have:=hin i hi; omega),he⟩;rw [ae,a1.length_eq,jh,c3];omega
   ·rw [c7];exact a2
 case col=>
  rcases h with ⟨vs,hq,rr,fin⟩ | ⟨d,kvs,hv,hd,hk,fin⟩
  ·obtain ⟨its,rv,pl,hz⟩:=I.list hq;refine collect_list pl.isList ?_ (by have:=rv.length; omega);exact ⟨H,vs,I.kept (t':=s.toks) fun b o e=>by
    have hlt:b < s.heap.objs.size:=aw e
    first
     | (rw [jr _ _ _ _ (a9 hlt),jg _ _ _ (a9 hlt)]; exact e)
     | exact ah _ e,rv,rr,fin⟩
  ·obtain ⟨hview,_,_⟩:=I.hok p _ hv;obtain ⟨z,y,vs,rkv,D⟩:=I.hok d _ hd;obtain ⟨ep,D'⟩:=D.dictAt;have lkv:kvs.length=vs.length:=KV.length rkv;have lks:kvs.length=kss.length:=by simpa using congrArg List.length hk
   refine kdx_collect (A:=X.A.in1) (knd:=bN X.prog X.w) (kvs:=vs) (ep:=ep) (I.ok.hd hc) hview D' (by rw [c3]; omega) fun h' tk as kp hl hG=>?_
   -- the new tuples
   let ps:List (Addr×List V):=as.zip (kss.map fun ks=>ks.map kV);have psl:ps.map (·.1)=as:=by
    show (as.zip _).map Prod.fst=as
    rw [List.map_fst_zip];rw [ae];omega
   have hpl:∀ q∈ps,s.heap.objs.size<=q.1:=fun q hq=>by
    have:q.1∈as:=by rw [<- psl]; exact az.mpr ⟨q,hq,rfl⟩
    exact iw (hG.above _ this)
   have nd:(ps.map (·.1)).Nodup:=by
    rw [psl];exact hG.rise.imp fun h=>a9 h
   have each:∀ (j:Nat) (a:Addr),as[j]?=some a->∃ ks us,kss[j]?=some ks/\ps[j]?=some (a,ks.map kV)/\aN (ks.map kV) us/\nB h' a us.toArray/\ks.length<=2:=fun j a ha=>by
    obtain ⟨key,kk,x,e1,e2,e3⟩:=hG.pairs j a ha;have hj:j < kss.length:=by
     have:=(ab.mp ha).1;omega
    have hjk:j < kvs.length:=by omega
    have g1:kss[j]?=some kss[j]:=by simp [hj]
    have g2:kvs[j]?=some kvs[j]:=by simp [hjk]
    have g3:(kss[j]).map kV=[kV kvs[j].1,kvs[j].2]:=by
     have:=congrArg (fun l=>l[j]?) hk;simp [g1,g2] at this;exact this.symm
    -- the raw pair
    have rr:∀ {kvs:List (Key×V)} {vs:List (Key×Value)} {j:Nat} {kv:Key×V} {w':Key×Value},KV kvs vs->kvs[j]?=some kv->vs[j]?=some w'->kv.1=w'.1/\RelV kv.2 w'.2:=by
     intro kvs vs j kv w' h
     induction h generalizing j with
     | nil=>intro h1; simp at h1
     | cons r t ih=>
      intro h1 h2;cases j with
      | zero=>simp at h1 h2; subst h1 h2; exact r
      | succ j=>exact ih (by simpa using h1) (by simpa using h2)
    obtain ⟨q1,q2⟩:=rr rkv g2 e1;refine ⟨kss[j],[key,x],g1,?_,?_,⟨_,e3,rfl,⟨0,rfl⟩,rfl⟩,?_⟩
    ·show (as.zip _)[j]?=_
     rw [List.getElem?_zip_eq_some];exact ⟨ha,by simp [g1]⟩
    ·rw [g3];refine .cons ?_ (.cons q2 .nil);rw [q1];have e2':tE kk key=true:=e2;rcases bU e2' with ⟨i,t,rfl,rfl⟩ | ⟨y,t,rfl,rfl⟩
     ·exact ⟨t,rfl⟩
     ·exact ⟨t,rfl⟩
    ·have:=congrArg List.length g3;simp at this;omega
   have I1:Inv X pins σ (pV H ps) { s with heap:=h',toks:=tk }:=I.laidT kp hpl fun q hq=>by
    obtain ⟨j,hj⟩:=dr.mp hq;have ha:as[j]?=some q.1:=by
     have:=congrArg (fun l=>l[j]?) psl;simp [hj] at this;exact this.symm
    obtain ⟨ks,us,_,e2,e3,e4,e5⟩:=each j q.1 ha;rw [hj] at e2;have eq2:q.2=ks.map kV:=by
     have:=bg e2;rw [this]
    refine ⟨?_,us,by rw [eq2]; exact e3,e4⟩;rw [eq2,ae,c3];omega
   refine ⟨pV H ps,as.map V.ref,I1,?_,?_,fin _ (Hh I hpl)⟩
   ·have:∀ l:List Addr,aN (l.map V.ref) (l.map dm):=fun l=>by
     induction l with
     | nil=>exact .nil
     | cons a l ih=>exact .cons rfl ih
    exact this as
   ·have gen:∀ (l:List Addr) (ls:List (List Key)),l.length=ls.length->(∀ (j:Nat) a ks,l[j]?=some a->ls[j]?=some ks->pV H ps a=some (.tup (ks.map kV)))->cG X.K (pV H ps) (ls.map tD) (l.map V.ref):=by
     intro l
     induction l with
     | nil=>
      intro ls hl _;cases ls with
      | nil=>exact trivial
      | cons _ _=>cases hl
     | cons a l ih=>
      intro ls hl hh;cases ls with
      | nil=>cases hl
      | cons ks ls=>
       refine ⟨⟨a,_,rfl,SqT.of (hh 0 a ks rfl rfl),yM ks⟩,ih ls (by simpa using hl) fun j a' ks' h1 h2=>hh (j+1) a' ks' (by simpa using h1) (by simpa using h2)⟩
    refine gen as kss (by omega) fun j a ks h1 h2=>?_;obtain ⟨ks',us,e1,e2,_⟩:=each j a h1;rw [h2] at e1;cases e1
    exact BZ nd e2
end
end L2
namespace L2
open PySem PySem.Spec PyProof.Rows
theorem wX:typeLookup (.type "tuple") "keys" = pure none:=by rw [typeLookup_type,builtinLookup_eq_fast]; kernel_rfl
theorem eW:entryFor table "dict.update.loop" = some Builtin.«dict.update.loop»:=entryFor_of_tree (by kernel_rfl)
theorem bV:plainId "dict.update.loop" = true:=by decide +kernel
theorem wY {prog:Program} {w:World} {A:Around} {E:Value->Shared->Prop} {s:Shared} {a:Addr} {o:Obj} {xs:Array Value} {k:Nat} {Q:Option Value->Shared->Prop}
  (hx:s.heap.get? a=some o) (hc:o.cls=.type "tuple") (hdat:o.data=.seq xs k) (hd:o.dict=none) (hA:A.handled=none)
  (h:∀ h' tk,(∀ b u,s.heap.get? b=some u->h'.get? b=some u)->Q none { s with heap:=h',toks:=tk }):wpAny (model prog w) A (getAttr? (.ref a) "keys") Q E s:=by
 obtain ⟨c,dct,dat,sl⟩:=o;simp only at hc hdat hd;subst hc hdat hd;obtain ⟨hp,g,d,tk,os⟩:=s;have hT:∀ tk',(⟨hp,g,d,tk',os⟩:Shared).TypeIs (.ref a) "tuple" := fun _=>⟨_,hx,rfl⟩;have f1:=sub_AttributeError;have f3:=F.slot_tuple_getattribute.lookup;have f4:=F.slot_tuple_getattribute.bind (.ref a);have f5:=am_tuple_getattr_none;unfold getAttr? getAttrBy? getAttrBy
 repeat (any_goals (first | assumption | exact hT _ | ((with_reducible show wpAny _ _ (call (Value.builtin "tuple.__getattribute__") _ _) _ _ _); refine call_meets F.slot_tuple_getattribute (hT _) am_entry_tuple_getattribute (F.args_tuple_getattribute_2 _ _) (meets_getattribute_miss_tuple a xs k sl "keys" _ wX (by decide) (by size_fits)) ⟨hx,hA,fun h' tk' e hx'=>?_⟩) | wp_step))
 obtain ⟨t',u',he⟩:=hx'.there
 show wpAny _ _ (getattributeRaised _ _ _ _ _ _ _) _ _ _
 unfold getattributeRaised
 repeat (any_goals (first | assumption | wp_step))
 exact h _ _ hx'.of.keeps
section
variable {prog:Program} {w:World} {K:Type} [DecidableEq K] {knd:KeyKind prog w K} {A:Around} {R:Result->Shared->Prop}
theorem E7 {I d:Addr} {fp wr:List Addr} {n:Nat} {P:Nat->Value->Prop} {St:Nat->Heap->Prop} (W:Walks prog w A.in1 I fp wr n P St) (hd:d∉fp) (ps:List (Addr×K×Value×Value)) (hn:ps.length=n)
  (hP:∀ i v,P i v->∃ p,ps[i]?=some p/\v=.ref p.1) (hT:∀ p∈ps,p.1∉wr/\p.1≠d) (hk:∀ p∈ps,knd.is p.2.1 p.2.2.1=true) (res:Value):
  ∀ (m i:Nat) (s:Shared) (kvs:List (K×Value)),n - i=m->i<=n->St i s.heap->s.heap.DictOf knd d kvs->kvs.length+n<=au+i->(∀ p∈ps,IsTup s.heap p.1 #[p.2.2.1,p.2.2.2])->
  (∀ h' tk,h'.DictOf knd d (merged kvs ((ps.drop i).map fun p=>(p.2.1,p.2.2.2)))->(∀ b o,b≠d->b∉wr->s.heap.get? b=some o->h'.get? b=some o)->R (.ok (.ret res)) { s with heap:=h',toks:=tk })->
  codeAny (model prog w) A (.builtin "dict.update.loop" ⟨[.ref d,.ref I,rawInt i,res],[]⟩) R s:=by
 have hdw:d∉wr:=fun h=>hd (W.sub _ h);intro m
 induction m with
 | zero=>
  intro i s kvs hm hi hst hdt hz hit hR;have hin:i=n:=by omega
  subst hin;refine ka eW ?_;rw [gz bV _]
  show wpAny _ A.in1 (pyNext (.ref I) >>= _) _ _ s
  refine aa (W.done s _ _ hst fun h' tk hk'=>?_)
  show wpAny _ A.in1 (Builtin.Dict.addKeywords d [] >>= _) _ _ _
  have hfin:=hR h' tk (by
   rw [List.drop_of_length_le (by omega)];obtain ⟨o,es,ep,h1,h2⟩:=hdt;exact ⟨o,es,ep,hk' d _ hdw h1,h2⟩) fun b o _ hb e=>hk' b o hb e
  exact aa (ag (ag hfin))
 | succ m ih=>
  intro i s kvs hm hi hst hdt hz hit hR;have hlt:i < n:=by omega
  refine ka eW ?_;rw [gz bV _]
  show wpAny _ A.in1 (pyNext (.ref I) >>= _) _ _ s
  refine aa (W.item i s _ _ hlt hst fun v h' tk hPv hst' hk'=>?_);obtain ⟨p,hp,rfl⟩:=hP i v hPv;have hpm:=cy hp;obtain ⟨ob,hb1,hb2,nn,hb3⟩:=hit p hpm;have hb1':=hk' _ _ (hT p hpm).1 hb1;have hTy:({ s with heap:=h',toks:=tk }:Shared).TypeIs (.ref p.1) "tuple" := ⟨ob,hb1',hb2⟩;have hdt':h'.DictOf knd d kvs:=by
   obtain ⟨o,es,ep,h1,h2⟩:=hdt;exact ⟨o,es,ep,hk' d _ hdw h1,h2⟩
  refine aa (da (aa (kx ?_)));unfold Builtin.Dict.pairItems;refine aa (lg hTy ?_);rw [if_pos (by decide)];refine aa (wpAny_seqItems hb1' hb3 (ag ?_))
  show wpAny _ _ (holding [p.2.2.1,p.2.2.2] (dictSet d p.2.2.1 p.2.2.2)) _ _ _
  refine da (wpAny_dictSet_pairs (hk p hpm) hdt' (hsz:=by omega) fun h2 hd2 hs2=>?_);refine ag ⟨jt bV _,?_⟩;have st2:St (i+1) h2:=W.frame (i+1) h' h2 hst' fun b hb o e=>(hs2.2 b (fun z=>hd (z ▸ hb))).trans e;refine ih (i+1) _ (stored kvs p.2.1 p.2.2.2) (by omega) hlt st2 hd2 ?_ (fun q hq=>?_) fun h3 tk3 hd3 hk3=>?_
  ·have:=stored_length_le kvs p.2.1 p.2.2.2;omega
  ·obtain ⟨ob',c1,c2⟩:=hit q hq;exact ⟨ob',(hs2.2 _ (hT q hq).2).trans (hk' _ _ (hT q hq).1 c1),c2⟩
  ·refine hR h3 tk3 ?_ fun b o hb hw e=>hk3 b o hb hw ((hs2.2 b hb).trans (hk' b o hw e));have hdr:ps.drop i=p :: ps.drop (i+1):=by
    obtain ⟨hl,e⟩:=ab.mp hp;rw [jc hl,e]
   rw [hdr];exact hd3
theorem sJ {E:Value->Shared->Prop} {s:Shared} {a:Addr} {o:Obj} {k:Nat} {ps:List (Addr×K×Value×Value)} {Q:Value->Shared->Prop} (hA:A.handled=none) (hx:s.heap.get? a=some o) (hc:o.cls=.type "tuple") (hdat:o.data=.seq (ps.map fun p=>dm p.1).toArray k) (hd:o.dict=none)
  (hk:∀ p∈ps,knd.is p.2.1 p.2.2.1=true) (hit:∀ p∈ps,IsTup s.heap p.1 #[p.2.2.1,p.2.2.2]) (hz:ps.length<=au)
  (h:∀ h' tk,h'.DictOf knd s.heap.objs.size (merged [] (ps.map fun p=>(p.2.1,p.2.2.2)))->(∀ b u,s.heap.get? b=some u->h'.get? b=some u)->Q (.ref s.heap.objs.size) { s with heap:=h',toks:=tk }):
  wpAny (model prog w) A (call (.type "dict") [.ref a]) Q E s:=by
 refine callType_codes (Q₁:=fun obj s₁=>obj=.ref s.heap.objs.size/\s₁={ s with heap:=s.heap.push { cls:=.type "dict",data:=.dict #[] } }) F.kt_called_dict (F.kt_typeCall_dict_1 _) F.entry_dict_init (kt_code_dict_new _ ⟨rfl,rfl⟩) ?_;rintro obj s₁ ⟨rfl,rfl⟩;have hnew:(s.heap.push { cls:=.type "dict",data:=.dict #[] }).DictOf knd s.heap.objs.size []:=Heap.DictOf.new s.heap;have up:∀ b u,s.heap.get? b=some u->(s.heap.push { cls:=.type "dict",data:=.dict #[] }).get? b=some u:=fun b u e=>ah _ e;have hTa:({ s with heap:=s.heap.push { cls:=.type "dict",data:=.dict #[] } }:Shared).TypeIs (.ref a) "tuple" := ⟨o,up _ _ hx,hc⟩;refine ⟨hnew.typeIs,F.args_dict_init_2 _ _,?_⟩;unfold Builtin.«dict.__init__»;refine aa ?_; unfold Builtin.Dict.selfAndRest;refine aa (i4 hnew.typeIs (show wpAny _ _ (pure (s.heap.objs.size,[dm a])) _ _ _ from ag ?_))
 show wpAny _ _ (ju "dict.__init__" s.heap.objs.size (.ref a) [] .none) _ _ _
 unfold ju;refine aa (lg hTa ?_);rw [if_pos (by decide)];refine aa (wY (up _ _ hx) hc hdat hd hA fun h1 tk1 kp1=>?_);rw [if_pos (by rfl)];refine aa (jf ?_);have ha1:IsTup h1 a (ps.map fun p=>dm p.1).toArray:=⟨o,kp1 _ _ (up _ _ hx),hc,k,hdat⟩;refine aa (wpAny_pyIter_tuple (show ({ s with heap:=h1,toks:=tk1 }:Shared).heap.IsTuple a _ from ha1) (ag ⟨jt bV _,?_⟩))
 have lt0:s.heap.objs.size < h1.objs.size:=by
  have:=kp1 s.heap.objs.size _ (ay s.heap rfl);exact aw this
 have hlt:∀ b u,s.heap.get? b=some u->b < s.heap.objs.size:=fun b u e=>aw e;have ha0:=hlt _ _ hx;refine E7 (knd:=knd) (fp:=[h1.objs.size,a]) (wr:=[h1.objs.size]) (n:=(ps.map fun p=>dm p.1).toArray.size) (Walks.tuple (A:=A.in1.in1) hA h1.objs.size a (a9 (lj ha0 lt0)) (ps.map fun p=>dm p.1).toArray) ?_ ps (by simp) (fun i v e=>?_) (fun p hp=>?_) hk .none _ 0 _ [] (Nat.sub_zero _) (b8 _) ?_ ?_ (by simpa using hz) (fun p hp=>?_) fun h' tk dd kk=>?_
 ·intro z;rcases bc.mp z with z | z
  ·exact a9 lt0 z
  ·exact a9 ha0 (bj.mp z).symm
 ·have e':(ps.map fun p=>dm p.1)[i]?=some v:=by simpa using e
  rw [aj] at e';obtain ⟨p,hp,rfl⟩:=bf.mp e';exact ⟨p,hp,rfl⟩
 ·obtain ⟨ob,e,_⟩:=hit p hp;have h0:=hlt _ _ e;exact ⟨fun z=>a9 (lj h0 lt0) (bj.mp z),a9 h0⟩
 ·refine ⟨⟨_,ay _ rfl,rfl,rfl⟩,?_⟩;obtain ⟨ob,e,r⟩:=ha1;exact ⟨ob,ah _ e,r⟩
 ·obtain ⟨oo,es,ep,e,r⟩:=hnew;exact ⟨oo,es,ep,ah _ (kp1 _ _ e),r⟩
 ·obtain ⟨ob,e,r⟩:=hit p hp;exact ⟨ob,ah _ (kp1 _ _ (up _ _ e)),r⟩
 ·refine ⟨rfl,h h' tk (by simpa using dd) fun b u e=>?_⟩
  have h0:=hlt _ _ e;exact kk b u (a9 h0) (fun z=>a9 (lj h0 lt0) (bj.mp z)) (ah _ (kp1 _ _ (up _ _ e)))
end
section
variable {prog:Program} {w:World} {K:Type} [DecidableEq K] {A:Around} {E:Value->Shared->Prop} {s:Shared}
theorem sL {knd:HeapKind prog w K} {d a:Addr} {xs:List (K×Addr×Value)} {k:K} {x:Value} {Q:Value->Shared->Prop} (hu:knd.room A) (hkey:knd.is s.heap k a) (hm:s.heap.DictOfH knd d xs) (hz:xs.length<=au)
  (there:∀ p,atKey xs k=some p->Q p.2 { s with toks:=s.toks+knd.draws k })
  (new:atKey xs k=none->∀ h',h'.DictOfH knd d (storedH xs k a x)->gd d s.heap h'->Q x { s with heap:=h',toks:=s.toks+knd.draws k }):wpAny (model prog w) A (kz d (.ref a) x) Q E s:=by
 obtain ⟨o,es,ep,ho,hc,hd,he,his,hn⟩:=hm;unfold kz;refine da (aa (knd.pyHash hu hkey ?_));refine aa (wpAny_dictFind_heap (s:={ s with toks:=s.toks+knd.draws k }) hu hkey ho hd he his hn (fun hno=>?_) (fun j p hj=>?_))
 ·have hat:=atKey_none_of_get hno;have fresh:=not_mem_keys_of_get hno;refine aa (jf (aa (wpAny_updateDictKeys (hz:=by have e:=size_of_entries he; omega) (s:={ s with toks:=s.toks+knd.draws k }) ho hd (ag (new hat _ ⟨_,_,ep+1,j6 _ ho (Obj.isFreed_of_dict (ko hd _)),hc.mapDictKeys _,ko hd _,?_,?_,?_⟩ (dz ..))))))
  ·rw [storedH_new hat,Array.toList_push,he,cj]; rfl
  ·rw [storedH_new hat];intro z hz';rcases ba.mp hz' with q | q
   ·exact knd.keeps (his z q) ho hd (dz ..)
   ·rw [bj.mp q];exact knd.keeps hkey ho hd (dz ..)
  ·rw [storedH_new hat,cj,ie];refine ⟨hn,by simp,fun u hu' v hv e=>fresh ?_⟩;have:v=k:=by simpa using hv
   rw [<- this,<- e];exact hu'
 ·have hat:atKey xs k=some p:=atKey_of_get hn hj;refine aa (kj (s:={ s with toks:=s.toks+knd.draws k }) ho hd ?_);rw [entry_at he j,hj];exact aa (jf (ag (there p hat)))
theorem pX {knd:KeyKind prog w K} {d:Addr} {kvs:List (K×Value)} {k:K} {key x:Value} {Q:Value->Shared->Prop} (hkey:knd.is k key=true) (hm:s.heap.DictOf knd d kvs) (hz:kvs.length<=au)
  (there:∀ v,valueAt kvs k=some v->Q v { s with toks:=s.toks+1 })
  (new:valueAt kvs k=none->∀ h',h'.DictOf knd d (stored kvs k x)->gd d s.heap h'->Q x { s with heap:=h',toks:=s.toks+1 }):wpAny (model prog w) A (kz d key x) Q E s:=by
 have hmap:=hm.mapOf;obtain ⟨o,es,ep,ho,hc,hd,hk,hp,hn⟩:=id hm;have hes:es.size<=au:=by
  have e1:=hp.length;rw [dt] at e1;omega
 unfold kz;refine da (aa (knd.pyHash hkey (aa (wpAny_dictFind_of (s:={ s with toks:=s.toks+1 }) hkey ho hd hk ?_))));have hidx:(es.findIdx? fun e=>knd.is k e.key)=kvs.findIdx? fun kv=>decide (kv.1=k):=by rw [<- hp.findIdx k]; obtain ⟨l⟩:=es; simp
 cases hi:es.findIdx? fun e=>knd.is k e.key with
 | some i=>
  refine aa (kj (s:={ s with toks:=s.toks+1 }) ho hd ?_);obtain ⟨o',es',ep',ho',_,hd',_,hf⟩:=hmap;obtain rfl:o=o':=bg (ho.symm.trans ho');have ees:es=es':=by rw [hd] at hd'; injection hd'
  subst ees;have hfk:valueAt kvs k=(es[i]?).map (·.val):=by rw [<- hf k,findBy_of_findIdx?,hi]
  have hlt:i < es.size:=(Array.findIdx?_eq_some_iff_findIdx_eq.mp hi).1;rw [Array.getElem?_eq_getElem hlt] at hfk ⊢;exact aa (jf (ag (there _ hfk)))
 | none=>
  have fresh:k∉kvs.map (·.1):=not_mem_of_findIdx_none (hidx ▸ hi);have hany:¬ (kvs.any fun kv=>decide (kv.1=k))=true:=by
   rw [List.any_eq_true];rintro ⟨kv,q1,q2⟩;exact fresh (az.mpr ⟨kv,q1,of_decide_eq_true q2⟩)
  have hv:valueAt kvs k=none:=by
   obtain ⟨o',es',ep',ho',_,hd',_,hf⟩:=hmap;obtain rfl:o=o':=bg (ho.symm.trans ho');have ees:es=es':=by rw [hd] at hd'; injection hd'
   subst ees;rw [<- hf k,findBy_of_findIdx?,hi]
  refine aa (jf (aa (wpAny_updateDictKeys (hz:=hes) (s:={ s with toks:=s.toks+1 }) ho hd (ag (new hv _ ⟨_,_,ep+1,j6 _ ho (Obj.isFreed_of_dict (ko hd _)),hc.mapDictKeys _,ko hd _,hk.push hkey _,?_,?_⟩ (dz ..))))))
  ·rw [stored,if_neg hany];have q:=hp.append hkey (knd.hash k) x;obtain ⟨l⟩:=es;simpa using q
  ·rw [stored,if_neg hany,cj,ie];refine ⟨hn,by simp,fun u hu' v hv' e=>fresh ?_⟩;have:v=k:=by simpa using hv'
   rw [<- this,<- e];exact hu'
end
section
variable {prog:Program} {w:World} {K:Type} [DecidableEq K]
theorem jL (knd:HeapKind prog w K) (d a:Addr) (hd:(d == fg)=false) (x:Value):
  MeetsIn prog w (Builtin.«dict.setdefault» ⟨[.ref d,.ref a,x],[]⟩) (fun A R s=>knd.room A.in1/\∃ k xs,knd.is s.heap k a/\s.heap.DictOfH knd d xs/\xs.length<=au/\(∀ p,atKey xs k=some p->R (.ok (.ret p.2)) { s with toks:=s.toks+knd.draws k })/\
   (atKey xs k=none->∀ h',h'.DictOfH knd d (storedH xs k a x)->gd d s.heap h'->R (.ok (.ret x)) { s with heap:=h',toks:=s.toks+knd.draws k })):=
 .of_wp fun A R s ⟨hu,k,xs,hkey,hm,hz,r1,r2⟩=>by
  unfold Builtin.«dict.setdefault»;refine aa ?_; unfold Builtin.Dict.keyAndDefault;refine aa (i4 hm.typeIs (show wpAny _ _ (pure (d,dm a,some x)) _ _ s from ag ?_))
  show wpAny _ _ (if (d == fg)=true then _ else (kz d (.ref a) x >>= _)) _ _ s
  rw [if_neg (show ¬ _ from by rw [hd]; decide)]
  exact aa (sL hu hkey hm hz (fun p e=>ag ⟨p.2,rfl,r1 p e⟩) fun e h' q1 q2=>ag ⟨x,rfl,r2 e h' q1 q2⟩)
theorem iT (knd:KeyKind prog w K) (d:Addr) (hd:(d == fg)=false) {k:K} {key:Value} (hkey:knd.is k key=true) (x:Value):
  MeetsIn prog w (Builtin.«dict.setdefault» ⟨[.ref d,key,x],[]⟩) (fun A R s=>∃ kvs,s.heap.DictOf knd d kvs/\kvs.length<=au/\(∀ v,valueAt kvs k=some v->R (.ok (.ret v)) { s with toks:=s.toks+1 })/\
   (valueAt kvs k=none->∀ h',h'.DictOf knd d (stored kvs k x)->gd d s.heap h'->R (.ok (.ret x)) { s with heap:=h',toks:=s.toks+1 })):=
 .of_wp fun A R s ⟨kvs,hm,hz,r1,r2⟩=>by
  unfold Builtin.«dict.setdefault»;refine aa ?_; unfold Builtin.Dict.keyAndDefault;refine aa (i4 hm.typeIs (show wpAny _ _ (pure (d,key,some x)) _ _ s from ag ?_))
  show wpAny _ _ (if (d == fg)=true then _ else (kz d key x >>= _)) _ _ s
  rw [if_neg (show ¬ _ from by rw [hd]; decide)]
  exact aa (pX hkey hm hz (fun v e=>ag ⟨v,rfl,r1 v e⟩) fun e h' q1 q2=>ag ⟨x,rfl,r2 e h' q1 q2⟩)
end
section
variable {prog:Program} {w:World} {A:Around} {E:Value->Shared->Prop} {s:Shared} {v dc it:Addr} {oc:Obj} {es:Array DictEntry} {ep:Nat}
theorem Hi {Q:Value->Shared->Prop} (hv:s.heap.IsValuesView v dc) (h1:s.heap.get? dc=some oc) (h2:oc.data=.dict es ep)
  (q:Q (.ref s.heap.objs.size) { s with heap:=s.heap.push { cls:=.type "dict_valueiterator",data:=.fields #[.ref dc,.int 0 0,.int es.size 0,.int ep 0] } }):wpAny (model prog w) A (pyIter (.ref v)) Q E s:=by
 obtain ⟨ov,g1,g2,g3⟩:=id hv;refine wpAny_pyIter_slot hv.typeIs F.slot_dict_values_iter (ir F.slot_dict_values_iter hv.typeIs F.entry_dict_values_iter (show wpAny _ _ (Builtin.«dict_values.__iter__» _) _ _ _ from ?_) (F.args_dict_values_iter_1 _))
 unfold Builtin.«dict_values.__iter__»;refine aa (ag (aa ?_)); unfold Builtin.Dict_items.dictOf;refine aa (wpAny_field g1 g3 (x:=.ref dc) rfl (ag (aa ?_))); unfold Builtin.Dict_items.newIterator;refine aa (kj h1 h2 (aa (wpAny_dictEpoch h1 h2 ?_)));rw [show j4 "dict_valueiterator" = false by decide]; simp only [dq,if_false];refine fm (ag ⟨_,rfl,"dict_valueiterator",_,⟨_,ay _ rfl,rfl⟩,ff.lookup,(by simpa [rawInt] using q)⟩)
theorem JS {i:Nat} {Q:Option Value->Shared->Prop} (hI:s.heap.IsValIter it dc i es.size ep) (h1:s.heap.get? dc=some oc) (h2:oc.data=.dict es ep) (hlt:i < es.size)
  (q:∀ h',h'.IsValIter it dc (i+1) es.size ep->gd it s.heap h'->Q (some es[i].val) { s with heap:=h' }):wpAny (model prog w) A (pyNext (.ref it)) Q E s:=by
 obtain ⟨oi,g1,g2,g3⟩:=id hI;unfold pyNext;refine aa (wpAny_attempt (jo (name:=jk "__next__") hI.typeIs ff (ir ff hI.typeIs F.entry_dict_valueiterator_next ?_ (F.args_dict_valueiterator_next_1 _))));refine aa (ag (aa (aa ?_)))
 first | refine aa (gx hI.typeIs (ag ?_)) | refine aa (jj hI.typeIs (ag ?_))
 refine aa (wpAny_fieldsOf g1 g3 ?_);rw [show j4 "dict_valueiterator" = false by decide]; simp only [dq,if_false]
 show wpAny _ _ (if (dm dc == cq)=true then _ else _) _ _ s
 rw [if_neg (show ¬ ((dm dc == cq)=true) from bu)]
 refine aa (ag (aa (kj h1 h2 ?_)));rw [if_neg (show ¬ _ by simp)];refine aa (ag (aa (wpAny_dictEpoch h1 h2 ?_)));rw [if_neg (show ¬ _ by simp)];refine ag ?_;simp only [show ¬ ((i:Int) < 0) by omega,if_false,ic,Array.getElem?_eq_getElem hlt];refine aa ?_
 first | refine aa (gx hI.typeIs (ag ?_)) | refine aa (jj hI.typeIs (ag ?_))
 refine aa (wpAny_isOneOf_valiter hI.typeIs (show wpAny _ _ (setField (.ref it) 1 (rawInt ((i:Int)+1)) >>= _) _ _ s from aa (wpAny_setField g1 g3 (by simp) ?_)))
 have hI':(s.heap.update it (Obj.mapFields (·.setIfInBounds 1 (rawInt ((i:Int)+1))))).IsValIter it dc (i+1) es.size ep:=
  ⟨_,j6 _ g1 (Obj.isFreed_of_fields (Obj.data_mapFields g3 _)),(Obj.cls_mapFields ..).trans g2,by rw [Obj.data_mapFields g3]; simp [rawInt]⟩
 have ty':({ s with heap:=s.heap.update it (Obj.mapFields (·.setIfInBounds 1 (rawInt ((i:Int)+1)))) }:Shared).TypeIs (.ref it) "dict_valueiterator" := hI'.typeIs;refine aa (da (aa (wpAny_isOneOf_valiter ty' (aa (wpAny_isOneOf_valiter ty' ?_)))))
 show wpAny _ _ (pure es[i].val) _ _ _
 exact ag (ag ⟨_,rfl,ag (q _ hI' (dz ..))⟩)
theorem JT {i:Nat} {Q:Option Value->Shared->Prop} (hh:A.handled=none) (hI:s.heap.IsValIter it dc i es.size ep) (h1:s.heap.get? dc=some oc) (h2:oc.data=.dict es ep) (hge:es.size<=i)
  (q:∀ h',Heap.ExtBut it s.heap h'->Q none { s with heap:=h' }):wpAny (model prog w) A (pyNext (.ref it)) Q E s:=by
 obtain ⟨oi,g1,g2,g3⟩:=id hI;unfold pyNext;refine aa (wpAny_attempt (jo (name:=jk "__next__") hI.typeIs ff (ir ff hI.typeIs F.entry_dict_valueiterator_next ?_ (F.args_dict_valueiterator_next_1 _))));refine aa (ag (aa (aa ?_)))
 first | refine aa (gx hI.typeIs (ag ?_)) | refine aa (jj hI.typeIs (ag ?_))
 refine aa (wpAny_fieldsOf g1 g3 ?_);rw [show j4 "dict_valueiterator" = false by decide]; simp only [dq,if_false]
 show wpAny _ _ (if (dm dc == cq)=true then _ else _) _ _ s
 rw [if_neg (show ¬ ((dm dc == cq)=true) from bu)]
 refine aa (ag (aa (kj h1 h2 ?_)));rw [if_neg (show ¬ _ by simp)];refine aa (ag (aa (wpAny_dictEpoch h1 h2 ?_)));rw [if_neg (show ¬ _ by simp)];refine ag ?_;simp only [show ¬ ((i:Int) < 0) by omega,if_false,ic,Array.getElem?_eq_none hge];refine aa ?_
 first | refine aa (gx hI.typeIs (ag ?_)) | refine aa (jj hI.typeIs (ag ?_))
 refine (show wpAny _ _ (setField (.ref it) 0 .none >>= _) _ _ s from aa (wpAny_setField g1 g3 (by simp) ?_))
 refine (show wpAny _ _ (newExc (.type "StopIteration") [] >>= _) _ _ _ from aa ?_); simp only [newExc,newTuple]
 refine aa (fm (aa (m:=firstArgMember _ _) (wpAny_of_eq (a:=cq) (by first | rfl | (simp only [firstArgMember]; rfl)) (fm ?_ (by size_fits)))) (by size_fits))
 simp only [raiseNew];refine aa (wpAny_handled ?_); rw [show A.in1.handled=none from hh]
 refine aa (ag (wpAny_throw ?_)); refine aa (wpAny_isInstance (T:="StopIteration") (b:=true) ⟨_,ay _ rfl,rfl⟩ isSubtype_stop ?_);exact ag (q _ (((dz ..).extBut.push _).push _))
theorem E8 (hh:A.handled=none) (I dc:Addr) (hne:dc≠I) (oc:Obj) (es:Array DictEntry) (ep:Nat) (h2:oc.data=.dict es ep):
  Walks prog w A I [I,dc] [I] es.size (fun i v=>∃ e,es[i]?=some e/\v=e.val) (fun i h=>h.IsValIter I dc i es.size ep/\h.get? dc=some oc) where
 sub:=fun b hb=>by rw [bj.mp hb]; exact ak
 frame:=fun _ _ _ st hk=>⟨let ⟨o,e,r⟩:=st.1; ⟨o,hk I ak o e,r⟩,hk dc (aq _ ak) _ st.2⟩
 item:=fun i s Q E hi st hQ=>JS st.1 st.2 h2 hi fun h' hit' hs'=>hQ _ h' s.toks ⟨es[i],by simp [hi],rfl⟩ ⟨hit',(hs'.2 dc hne).trans st.2⟩ fun b o hb e=>(hs'.2 b fun z=>hb (by rw [z]; exact ak)).trans e
 done:=fun s Q E st hQ=>JT hh st.1 st.2 h2 (ai _) fun h' he'=>hQ h' s.toks fun b o hb e=>he' b o (fun z=>hb (by rw [z]; exact ak)) e
 self:=fun _ _ _ _ st hQ=>wpAny_pyIter_valiter st.1 hQ
theorem JU {r:Addr} (h2:oc.data=.dict es ep):PySem.W.KdlSrc prog w "dict_values" r dc es.size (fun i v=>∃ e,es[i]?=some e/\v=e.val) (fun h=>h.IsValuesView r dc/\h.get? dc=some oc) where
 type:=fun _ hm=>hm.1.typeIs
 there:=fun _ hm=>⟨let ⟨_,ho,_⟩:=hm.1; aw ho,aw hm.2⟩
 keep:=fun _ _ hm hk=>⟨let ⟨o,ho,x⟩:=hm.1; ⟨o,hk r (.inl rfl) o ho,x⟩,hk dc (.inr rfl) _ hm.2⟩
 notList:=by decide
 notTuple:=by decide
 hint:=fun _ _ _ _ hm hq=>PySem.W.kdl_hint_values hm.1.typeIs hq
 iter:=fun _ _ hh hm=>⟨_,_,(fun _ _ hq=>Hi hm.1 hm.2 h2 hq),E8 hh _ dc (a9 (aw hm.2)) oc es ep h2,⟨⟨_,ay _ rfl,rfl,rfl⟩,ah _ hm.2⟩⟩
theorem Aw (dc:Addr) (hd:(dc == fg)=false):MeetsIn prog w (Builtin.«dict.values» ⟨[.ref dc],[]⟩) (fun _ R s=>s.TypeIs (.ref dc) "dict" /\
   R (.ok (.ret (.ref s.heap.objs.size))) { s with heap:=s.heap.push { cls:=.type "dict_values",data:=.fields #[.ref dc] } }):=
 .of_wp fun A R s ⟨hT,h⟩=>by
  refine aa ?_; unfold Builtin.Dict.noArgs;refine aa (i4 hT (show wpAny _ _ (pure dc) _ _ s from ag (show wpAny _ _ (Builtin.Dict.showsAll dc >>= _) _ _ s from ?_)))
  unfold Builtin.Dict.showsAll; rw [if_neg (show ¬ _ from by rw [hd]; decide)]
  refine aa (ag (aa (fm (ag ⟨_,rfl,h⟩))))
end
structure TOk (bt:Bool) (t:SetTable):Prop where
 dum:t.dummies=#[]
 led:bt=false->t.led=true
 ris:t.plain=true->t.place.toList.Pairwise (· < ·)
end L2
namespace L2
open PySem PySem.Spec PyProof.Rows PySem.SeqAt PySem.W
noncomputable def cL (b:Bool) (n i:Nat):Nat:=if b then n - 1 - i else i
noncomputable def C1 (b:Bool) (n:Nat) (p:List Nat):List Nat:=katRev b (p.map (cL b n))
theorem jQ {α:Type} (b:Bool) {l:List α} {d:α} {i:Nat} (hi:i < l.length):(katRev b l).getD i d=l.getD (cL b l.length i) d:=by
 cases b with
 | false=>rfl
 | true=>
  show l.reverse.getD i d=l.getD (l.length - 1 - i) d
  rw [fb,fb,List.getElem?_reverse hi]
theorem fU {b:Bool} {n i:Nat} (h:i < n):cL b n i < n:=by
 unfold cL; split <;> omega
theorem E9 {b:Bool} {n:Nat} {p:List Nat} (h:p.Perm (ax n)):(C1 b n p).Perm (ax n):=by
 cases b with
 | false=>
  have e:C1 false n p=p:=by
   show p.map (fun i=>cL false n i)=p
   have:(fun i=>cL false n i)=id:=by funext i; rfl
   rw [this,List.map_id]
  rw [e]; exact h
 | true=>
  have e:(ax n).map (cL true n)=(ax n).reverse:=by
   apply List.ext_getElem
   ·simp
   ·intro i h1 h2;simp [cL]
  show ((p.map (cL true n)).reverse).Perm _
  refine (List.reverse_perm _).trans ((h.map _).trans ?_);rw [e];exact List.reverse_perm _
theorem Ea {b:Bool} {n:Nat} {p:List Nat} {lt:Nat->Nat->Bool} (h:p.Pairwise (fun i j=>lt (cL b n j) (cL b n i)=false)):(C1 b n p).Pairwise (fun i j=>(if b then lt i j else lt j i)=false):=by
 have h1:(p.map (cL b n)).Pairwise (fun i j=>lt j i=false):=c7.mpr h;cases b with
 | false=>exact h1
 | true=>
  show ((p.map (cL true n)).reverse).Pairwise _
  rw [List.pairwise_reverse];exact h1
theorem Hj {b:Bool} {vs:List Value} {p:List Nat} (h:∀ i∈p,i < vs.length):katRev b (p.map fun i=>(katRev b vs).getD i cq)=(C1 b vs.length p).map fun i=>vs.getD i cq:=by
 have e:(p.map fun i=>(katRev b vs).getD i cq)=(p.map (cL b vs.length)).map fun i=>vs.getD i cq:=by
  rw [bq];exact dw fun i hi=>jQ b (h i hi)
 rw [e];unfold C1 katRev;split
 ·rw [List.map_reverse]
 ·rfl
theorem Eb {α:Type} (b:Bool) (l:List α):katRev b (katRev b l)=l:=by
 unfold katRev; split <;> simp
theorem range_getD (vs:List Value):((ax vs.length).map fun i=>vs.getD i cq)=vs:=by
 apply e8;intro i
 by_cases hi:i < vs.length
 ·simp [hi]
 ·simp [hi]
section
variable {prog:Program} {w:World} {A:Around} {E:Value->Shared->Prop} {s:Shared} {a kS:Addr} {b:Bool} {vs ks:List Value}
theorem Pg {st:SortSt} {e e1:Nat} {out:List Value} {P:PySem.Fin->Shared->Prop} (hout:(arrOf st).map (·.2)=out.toArray) (hz:out.length < 64) (hkz:ks.length < 64) (hf:failedOf st=none) (hka:kS≠a)
  (gk:s.heap.get? kS=some (seqObj "list" ks.toArray e)) (ga:s.heap.get? a=some (seqObj "list" #[] e1))
  (h:∀ (h':Heap) (c:Nat),(∀ x o,x≠a->x≠kS->s.heap.get? x=some o->h'.get? x=some o)->h'.get? a=some (seqObj "list" (katRev b out).toArray c)->(∃ o,h'.get? kS=some o)->P (.done (.ret .none)) { s with heap:=h' }):
  wpAny (model prog w) A (ksk_tail a b e1 (.ref kS) st) P E s:=by
 have w1:=dz s.heap kS (cu fun _=>(#[]:Array Value));obtain ⟨ck,hck⟩:∃ ck,(s.heap.update kS (cu fun _=>(#[]:Array Value))).get? kS=some (seqObj "list" #[] ck):=⟨_,ik gk fun _=>#[]⟩;have ga1:=(w1.2 a hka.symm).trans ga;have w2:=dz (s.heap.update kS (cu fun _=>(#[]:Array Value))) a (cu fun _=>(katRev b out).toArray);obtain ⟨c2,hc2⟩:∃ c2,((s.heap.update kS (cu fun _=>(#[]:Array Value))).update a (cu fun _=>(katRev b out).toArray)).get? a=some (seqObj "list" (katRev b out).toArray c2):=⟨_,ik ga1 fun _=>(katRev b out).toArray⟩;have hsz:(katRev b out).toArray.size=out.length:=by rw [ar,kat_len]
 unfold ksk_tail
 try dsimp only
 rw [hout,kat_outs];refine aa (i3 gk rfl ?_ (by rw [ar,c3]; omega) (b8 _));refine aa (wpAny_letGo (aa (seqEpoch_at ga1 rfl ?_)));refine aa (i3 ga1 rfl ?_ (b8 _) (c9 (Nat.le_of_eq hsz) (by rw [c3]; omega)));rw [hf];simp only [bne_self_eq_false,dq,if_false];exact ag (h _ c2 (fun x o h1 h2 q=>(w2.2 x h1).trans ((w1.2 x h2).trans q)) hc2 ⟨_,(w2.2 kS hka).trans hck⟩)
theorem UU {e e1:Nat} {κ:SortKind} {P:PySem.Fin->Shared->Prop} (lt:Nat->Nat->Bool) (hl:ks.length=vs.length) (h64:vs.length < 64) (hka:kS≠a)
  (tr:∀ i j k,i < vs.length->j < vs.length->k < vs.length->lt j i=false->lt k j=false->lt k i=false) (as:∀ i j,i < vs.length->j < vs.length->lt i j=true->lt j i=false)
  (gk:s.heap.get? kS=some (seqObj "list" ks.toArray e)) (ga:s.heap.get? a=some (seqObj "list" #[] e1))
  (hk:2<=vs.length->∀ (Q:SortKind->Shared->Prop) E',Q κ s->wpAny (model prog w) A (keyKind' ks.toArray) Q E' s)
  (hlt:∀ i j,i < vs.length->j < vs.length->∀ Q:Bool->Shared->Prop,Q (lt i j) s->wpAny (model prog w) A (keyLt' κ (ks.getD i cq) (ks.getD j cq)) Q (fun _ _=>False) s)
  (h:∀ (p:List Nat) (h':Heap) (c:Nat),p.Perm (ax vs.length)->p.Pairwise (fun i j=>(if b then lt i j else lt j i)=false)->(∀ x o,x≠a->x≠kS->s.heap.get? x=some o->h'.get? x=some o)->
   h'.get? a=some (seqObj "list" (p.map fun i=>vs.getD i cq).toArray c)->(∃ o,h'.get? kS=some o)->P (.done (.ret .none)) { s with heap:=h' }):
  wpAny (model prog w) A (ksk_end a b vs.toArray e1 (.ref kS) ks.toArray) P E s:=by
 have skip:∀ t:Sem PySem.Fin,wpAny (model prog w) A t P E s->wpAny (model prog w) A (if b=true then (do let _ <- rule "list.sort.reverse"; t) else t) P E s:=fun t ht=>by
  split
  ·exact aa (jf ht)
  ·exact ht
 have hlr:(katRev b ks).length=(katRev b vs).length:=by rw [kat_len,kat_len,hl]
 unfold ksk_end
 try dsimp only
 refine skip _ ?_;rw [kat_pairs b hl]
 by_cases h2:vs.toArray.size < 2
 ·rw [if_pos h2,if_pos h2];rw [ar] at h2;refine aa (ag ?_);rw [StateT.run_pure];refine aa (ag ?_)
  try dsimp only
  refine Pg (st:=SortSt.mk' general' ((katRev b ks).toArray.zip (katRev b vs).toArray) #[] 7 none) (out:=katRev b vs) (ks:=ks) ?_ (by rw [kat_len]; exact h64) (by omega) rfl hka gk ga fun h' c k1 k2 k3=>?_
  ·show ((katRev b ks).toArray.zip (katRev b vs).toArray).map (·.2)=(katRev b vs).toArray
   apply Array.toList_inj.mp;rw [Array.toList_map,ksk_zip]
   show (List.zip _ _).map Prod.snd=_
   rw [List.map_snd_zip (by rw [hlr]; exact ai _)]
  ·rw [Eb] at k2;refine h (ax vs.length) h' c (List.Perm.refl _) ?_ k1 (by rw [range_getD]; exact k2) k3;rw [d5];intro i j hi hj hij;simp only [jh] at hi hj;omega
 ·rw [if_neg h2,if_neg h2];rw [ar] at h2;refine aa (hk (by omega) _ _ ?_);have hkas:(kas_sort (katRev b vs).length).kasWp (kas_ask prog w A κ (katRev b ks)) (fun p s''=>p=evT (fun i j=>lt (cL b vs.length i) (cL b vs.length j)) (kas_sort vs.length)/\s''=s) s:=by
   rw [kat_len];refine tU (n:=vs.length) (lt:=fun i j=>lt (cL b vs.length i) (cL b vs.length j)) (fun i j C hi hj hC=>?_) (tT (by omega)) ⟨rfl,rfl⟩
   show wpAny (model prog w) A (keyLt' κ ((katRev b ks).getD i cq) ((katRev b ks).getD j cq)) C (fun _ _=>False) s
   rw [jQ b (by omega),jQ b (by omega),hl];exact hlt _ _ (fU hi) (fU hj) C hC
  refine aa (f7 (kat_run (ks:=katRev b ks) (vs:=katRev b vs) (E:=E) (Q:=fun st' s'=>s'=s/\arrOf st'=(evT (fun i j=>lt (cL b vs.length i) (cL b vs.length j)) (kas_sort vs.length)).map (kas_item ((katRev b ks).toArray.zip (katRev b vs).toArray))/\failedOf st'=none)
   hlr (by rw [kat_len]; omega) (by rw [kat_len]; exact h64) (fun p st' s' _ a2 a3 a4=>⟨a4.2,by rw [a2,a4.1],a3⟩) hkas) ?_ fun _ _ x=>x)
  rintro ⟨⟨⟩,st'⟩ s' ⟨rfl,har,hf⟩
  try dsimp only
  obtain ⟨c1,c2⟩:=BX (n:=vs.length) (lt:=fun i j=>lt (cL b vs.length i) (cL b vs.length j)) (fun i j k hi hj hk=>tr _ _ _ (fU hi) (fU hj) (fU hk)) (fun i j hi hj=>as _ _ (fU hi) (fU hj)) (by omega);have hin:∀ i∈(evT (fun i j=>lt (cL b vs.length i) (cL b vs.length j)) (kas_sort vs.length)).toList,i < vs.length:=fun i hi=>by simpa using c1.mem_iff.mp hi
  refine Pg (ks:=ks) (kat_snds hlr har) (by rw [ae,c1.length_eq,jh]; exact h64) (by omega) hf hka gk ga fun h' c k1 k2 k3=>?_;rw [Hj hin] at k2;exact h _ h' c (E9 c1) (Ea c2) k1 k2 k3
theorem Ec {f:Value} {n:Nat} {κ:SortKind} {P:PySem.Fin->Shared->Prop} (ho:s.heap.get? a=some (seqObj "list" vs.toArray n)) (h64:vs.length < 64) (J:Addr->Nat->List Value->Nat->Shared->Prop)
  (h0:∀ (kS e1:Nat) (h':Heap),(∀ x o,x≠a->s.heap.get? x=some o->h'.get? x=some o)->s.heap.objs.size<=kS->h'.get? a=some (seqObj "list" #[] e1)->h'.get? kS=some (seqObj "list" #[] 0)->J kS e1 [] 0 { s with heap:=h' })
  (hget:∀ kS e1 ks e s',J kS e1 ks e s'->kS≠a/\s'.heap.get? a=some (seqObj "list" #[] e1)/\s'.heap.get? kS=some (seqObj "list" ks.toArray e))
  (turn:∀ kS e1 ks e s' x,vs[ks.length]?=some x->J kS e1 ks e s'->wpAny (model prog w) A (call f [x]) (fun v s''=>s''.heap.get? kS=some (seqObj "list" ks.toArray e)/\∀ (h':Heap) e',gd kS s''.heap h'->h'.get? kS=some (seqObj "list" (ks++[v]).toArray e')->J kS e1 (ks++[v]) e' { s'' with heap:=h' }) (fun _ _=>False) s')
  (fin:∀ kS e1 ks e s',ks.length=vs.length->J kS e1 ks e s'->∃ lt:Nat->Nat->Bool,(∀ i j k,i < vs.length->j < vs.length->k < vs.length->lt j i=false->lt k j=false->lt k i=false)/\(∀ i j,i < vs.length->j < vs.length->lt i j=true->lt j i=false)/\
   (2<=vs.length->∀ (Q:SortKind->Shared->Prop) E',Q κ s'->wpAny (model prog w) A (keyKind' ks.toArray) Q E' s')/\
   (∀ i j,i < vs.length->j < vs.length->∀ Q:Bool->Shared->Prop,Q (lt i j) s'->wpAny (model prog w) A (keyLt' κ (ks.getD i cq) (ks.getD j cq)) Q (fun _ _=>False) s')/\
   ∀ (p:List Nat) (h':Heap) (c:Nat),p.Perm (ax vs.length)->p.Pairwise (fun i j=>(if b then lt i j else lt j i)=false)->(∀ x o,x≠a->x≠kS->s'.heap.get? x=some o->h'.get? x=some o)->
   h'.get? a=some (seqObj "list" (p.map fun i=>vs.getD i cq).toArray c)->(∃ o,h'.get? kS=some o)->P (.done (.ret .none)) { s' with heap:=h' }):
  wpAny (model prog w) A (ksk_tree a f b) P E s:=by
 have ha:a < s.heap.objs.size:=aw ho;have w1:=dz s.heap a (cu fun _=>(#[]:Array Value));obtain ⟨e1,ho1⟩:∃ e1,(s.heap.update a (cu fun _=>(#[]:Array Value))).get? a=some (seqObj "list" #[] e1):=⟨_,ik ho fun _=>#[]⟩;unfold ksk_tree;refine aa (listItems_at ho rfl (aa (i3 ho rfl ?_ (by rw [ar,c3]; omega) (b8 _))));refine aa (seqEpoch_at ho1 rfl (aa (wpAny_newTuple ?_ (by show vs.length<=_; rw [c3]; omega))));refine aa (wpAny_newList (da ?_) (b8 _));have hk1:((s.heap.update a (cu fun _=>(#[]:Array Value))).push (seqObj "tuple" vs.toArray 0)).objs.size=s.heap.objs.size+1:=by rw [size_push',k4]
 have J0:=h0 ((s.heap.update a (cu fun _=>(#[]:Array Value))).push (seqObj "tuple" vs.toArray 0)).objs.size e1 (((s.heap.update a (cu fun _=>(#[]:Array Value))).push (seqObj "tuple" vs.toArray 0)).push (seqObj "list" #[] 0))
  (fun x o hx q=>ah _ (ah _ ((w1.2 x hx).trans q))) (by rw [hk1]; exact Nat.le_succ _) (ah _ (ah _ ho1)) (ay _ rfl)
 show wpAny (model prog w) A (ksk_rest a f b vs.toArray e1 (.ref ((s.heap.update a (cu fun _=>(#[]:Array Value))).push (seqObj "tuple" vs.toArray 0)).objs.size)) P E { s with heap:=((s.heap.update a (cu fun _=>(#[]:Array Value))).push (seqObj "tuple" vs.toArray 0)).push (seqObj "list" #[] 0) }
 generalize ((s.heap.update a (cu fun _=>(#[]:Array Value))).push (seqObj "tuple" vs.toArray 0)).objs.size=kS at J0
 revert J0
 generalize ({ s with heap:=((s.heap.update a (cu fun _=>(#[]:Array Value))).push (seqObj "tuple" vs.toArray 0)).push (seqObj "list" #[] 0) }:Shared)=s0;intro J0;unfold ksk_rest;refine aa (jf ?_)
 first
  | rw [List.forIn_toArray]
  | (rw [<- Array.forIn_toList]; simp only [List.toList_toArray])
 refine aa (ksk_fold (fun i s'=>∃ ks e,ks.length=i/\J kS e1 ks e s') vs 0 s0 ⟨[],0,rfl,J0⟩ ?step ?done)
 case step=>
  rintro j x s' hx ⟨ks,e,hl,hJ⟩;have hj:j < vs.length:=(ab.mp hx).1;have hl':ks.length=j:=by omega
  refine aa (wpAny_attempt (f7 (turn kS e1 ks e s' x (by rw [hl']; exact hx) hJ) (fun v s'' q=>?_) fun _ _ z=>z.elim));obtain ⟨gk,nxt⟩:=q
  try dsimp only
  have w2:=dz s''.heap kS (cu (·.push v));obtain ⟨c2,hc2⟩:∃ c2,(s''.heap.update kS (cu (·.push v))).get? kS=some (seqObj "list" (ks.toArray.push v) c2):=⟨_,ik gk (·.push v)⟩;refine aa (i3 gk rfl ?_ (by rw [ar,c3]; omega) (c9 (Nat.le_of_eq (Array.size_push ..)) (by rw [ar,c3]; omega)));refine ag ⟨rfl,ks++[v],c2,by simp; omega,nxt _ c2 w2 ?_⟩;rw [hc2];simp
 case done=>
  rintro s' ⟨ks,e,hl,hJ⟩;have hl':ks.length=vs.length:=by omega
  obtain ⟨hka,ga,gk⟩:=hget kS e1 ks e s' hJ;obtain ⟨lt,tr,as,hk,hlt,h⟩:=fin kS e1 ks e s' hl' hJ
  try dsimp only
  refine aa (listItems_at gk rfl ?_);exact UU (κ:=κ) lt hl' h64 hka tr as gk ga hk hlt h
end
end L2
namespace L2
open PySem PySem.Spec PyProof.Rows PySem.SeqAt
inductive PV where
 | non | bl (b:Bool) | int (i:Int) | str (x:Str) | tup (xs:List PV) | ref (n:Nat) | ty (n:String) | fl (xs:List PV)
mutual
noncomputable def PV.beq:PV->PV->Bool
 | .non,.non=>true
 | .bl a,.bl b=>a == b
 | .int a,.int b=>a == b
 | .str a,.str b=>a == b
 | .tup a,.tup b=>PV.beqs a b
 | .ref a,.ref b=>a == b
 | .ty a,.ty b=>a == b
 | .fl a,.fl b=>PV.beqs a b
 | _,_=>false
noncomputable def PV.beqs:List PV->List PV->Bool
 | [],[]=>true
 | x :: xs,y :: ys=>PV.beq x y && PV.beqs xs ys
 | _,_=>false
end
mutual
theorem PV.beq_self:∀ x:PV,PV.beq x x=true
 | .non=>rfl
 | .bl a=>by simp [PV.beq]
 | .int a=>by simp [PV.beq]
 | .str a=>by simp [PV.beq]
 | .tup a=>by simp only [PV.beq]; exact PV.beqs_self a
 | .ref a=>by simp [PV.beq]
 | .ty a=>by simp [PV.beq]
 | .fl a=>by simp only [PV.beq]; exact PV.beqs_self a
theorem PV.beqs_self:∀ x:List PV,PV.beqs x x=true
 | []=>rfl
 | x :: xs=>by simp only [PV.beqs,PV.beq_self x,PV.beqs_self xs,Bool.and_self]
end
mutual
theorem PV.beq_eq:∀ {x y:PV},PV.beq x y=true->x=y
 | .non,y,h=>by cases y <;> first | rfl | (simp [PV.beq] at h)
 | .bl a,y,h=>by cases y <;> first | (simp [PV.beq] at h; rw [h]) | (simp [PV.beq] at h)
 | .int a,y,h=>by cases y <;> first | (simp [PV.beq] at h; rw [h]) | (simp [PV.beq] at h)
 | .str a,y,h=>by cases y <;> first | (simp [PV.beq] at h; rw [h]) | (simp [PV.beq] at h)
 | .tup a,y,h=>by
  cases y with
  | tup b=>simp only [PV.beq] at h; rw [PV.beqs_eq h]
  | _=>simp [PV.beq] at h
 | .ref a,y,h=>by cases y <;> first | (simp [PV.beq] at h; rw [h]) | (simp [PV.beq] at h)
 | .ty a,y,h=>by cases y <;> first | (simp [PV.beq] at h; rw [h]) | (simp [PV.beq] at h)
 | .fl a,y,h=>by
  cases y with
  | fl b=>simp only [PV.beq] at h; rw [PV.beqs_eq h]
  | _=>simp [PV.beq] at h
theorem PV.beqs_eq:∀ {x y:List PV},PV.beqs x y=true->x=y
 | [],y,h=>by cases y <;> first | rfl | (simp [PV.beqs] at h)
 | x :: xs,y,h=>by
  cases y with
  | nil=>simp [PV.beqs] at h
  | cons y ys=>
   simp only [PV.beqs,cm] at h;rw [PV.beq_eq h.1,PV.beqs_eq h.2]
end
noncomputable instance:DecidableEq PV:=fun x y=>match h:PV.beq x y with
 | true=>isTrue (PV.beq_eq h)
 | false=>isFalse fun e=>by rw [e,PV.beq_self] at h; cases h
noncomputable def PV.ky:Nat->PV->Bool
 | _,.int _=>true
 | _,.str _=>true
 | n+1,.tup xs=>xs.all (PV.ky n)
 | _,_=>false
section
variable (w:World)
mutual
noncomputable def hsh:PV->Int
 | .int i=>Pu w (.inl i)
 | .str x=>Pu w (.inr x)
 | .tup xs=>reduceHash (d6 (sM xs))
 | _=>0
noncomputable def sM:List PV->List Int
 | []=>[]
 | x :: xs=>hsh x :: sM xs
end
end
mutual
noncomputable def drw:PV->Nat
 | .tup xs=>C2 xs+1
 | _=>1
noncomputable def C2:List PV->Nat
 | []=>0
 | x :: xs=>drw x+C2 xs
end
mutual
/-- the raw value is the key -/
noncomputable def HR (h:Heap):PV->Value->Prop
 | .int i,v=>∃ t,v=.int i t
 | .str x,v=>∃ t,v=.str x t
 | .tup ps,v=>∃ a its,v=.ref a/\IsTup h a its.toArray/\HRs h ps its
 | _,_=>False
noncomputable def HRs (h:Heap):List PV->List Value->Prop
 | [],[]=>True
 | p :: ps,v :: vs=>HR h p v/\HRs h ps vs
 | [],_ :: _=>False
 | _ :: _,[]=>False
end
theorem HRs.length {h:Heap}:∀ {ps:List PV} {vs:List Value},HRs h ps vs->ps.length=vs.length
 | [],[],_=>rfl
 | _ :: _,_ :: _,r=>congrArg (·+1) (HRs.length r.2)
 | [],_ :: _,r=>r.elim
 | _ :: _,[],r=>r.elim
theorem HRs.at {h:Heap}:∀ {ps:List PV} {vs:List Value} {j:Nat} {p:PV},HRs h ps vs->ps[j]?=some p->∃ v,vs[j]?=some v/\HR h p v
 | [],[],_,_,_,e=>by simp at e
 | q :: _,v :: _,0,p,r,e=>by
  have:q=p:=by simpa using e
  subst this;exact ⟨v,rfl,r.1⟩
 | _ :: ps,_ :: vs,j+1,p,r,e=>by
  obtain ⟨v,h1,h2⟩:=HRs.at (ps:=ps) (vs:=vs) (j:=j) (p:=p) r.2 (by simpa using e)
  exact ⟨v,by simpa using h1,h2⟩
 | [],_ :: _,_,_,r,_=>r.elim
 | _ :: _,[],_,_,r,_=>r.elim
theorem Hk {h:Heap} {a:Addr} {x y:Array Value} (p:IsTup h a x) (q:IsTup h a y):x=y:=by
 obtain ⟨o,ho,_,n,hd⟩:=p;obtain ⟨o',ho',_,n',hd'⟩:=q;obtain rfl:o=o':=bg (ho.symm.trans ho');rw [hd] at hd';injection hd'
mutual
theorem HR.one {h:Heap}:∀ {p q:PV} {v:Value},HR h p v->HR h q v->p=q
 | .int i,q,v,r,r'=>by
  obtain ⟨t,rfl⟩:=r;cases q with
  | int j=>obtain ⟨t',e⟩:=r'; injection e with e; rw [e]
  | str j=>obtain ⟨t',e⟩:=r'; cases e
  | tup j=>obtain ⟨_,_,e,_⟩:=r'; cases e
  | _=>exact r'.elim
 | .str i,q,v,r,r'=>by
  obtain ⟨t,rfl⟩:=r;cases q with
  | int j=>obtain ⟨t',e⟩:=r'; cases e
  | str j=>obtain ⟨t',e⟩:=r'; injection e with e; rw [e]
  | tup j=>obtain ⟨_,_,e,_⟩:=r'; cases e
  | _=>exact r'.elim
 | .tup ps,q,v,r,r'=>by
  obtain ⟨a,its,rfl,p,rs⟩:=r;cases q with
  | int j=>obtain ⟨t',e⟩:=r'; cases e
  | str j=>obtain ⟨t',e⟩:=r'; cases e
  | tup qs=>
   obtain ⟨b,its',e,p',rs'⟩:=r';cases e
   have:its=its':=by simpa using congrArg Array.toList (Hk p p')
   subst this;rw [HRs.one rs rs']
  | _=>exact r'.elim
 | .non,_,_,r,_=>r.elim
 | .bl _,_,_,r,_=>r.elim
 | .ref _,_,_,r,_=>r.elim
 | .ty _,_,_,r,_=>r.elim
 | .fl _,_,_,r,_=>r.elim
theorem HRs.one {h:Heap}:∀ {ps qs:List PV} {vs:List Value},HRs h ps vs->HRs h qs vs->ps=qs
 | [],[],[],_,_=>rfl
 | p :: ps,q :: qs,v :: vs,r,r'=>by rw [HR.one r.1 r'.1,HRs.one r.2 r'.2]
 | [],_ :: _,[],_,r=>r.elim
 | [],_,_ :: _,r,_=>r.elim
 | _ :: _,_,[],r,_=>r.elim
 | _ :: _,[],_ :: _,_,r=>r.elim
end
theorem Ed {h h':Heap} {a d:Addr} {o:Obj} {es ep} {x:Array Value} (p:IsTup h a x) (ho:h.get? d=some o) (hd:o.data=.dict es ep) (hs:gd d h h'):IsTup h' a x:=by
 obtain ⟨q,hq,hc,n,hdt⟩:=p;have ne:a≠d:=by
  rintro rfl;obtain rfl:q=o:=bg (hq.symm.trans ho);rw [hd] at hdt;cases hdt
 exact ⟨q,(hs.2 a ne).trans hq,hc,n,hdt⟩
mutual
theorem HR.keep {h h':Heap} (k:∀ a x,IsTup h a x->IsTup h' a x):∀ {p:PV} {v:Value},HR h p v->HR h' p v
 | .int i,v,r=>r
 | .str i,v,r=>r
 | .tup ps,v,⟨a,its,e,p,rs⟩=>⟨a,its,e,k _ _ p,HRs.keep k rs⟩
 | .non,_,r=>r.elim
 | .bl _,_,r=>r.elim
 | .ref _,_,r=>r.elim
 | .ty _,_,r=>r.elim
 | .fl _,_,r=>r.elim
theorem HRs.keep {h h':Heap} (k:∀ a x,IsTup h a x->IsTup h' a x):∀ {ps:List PV} {vs:List Value},HRs h ps vs->HRs h' ps vs
 | [],[],_=>trivial
 | _ :: _,_ :: _,r=>⟨HR.keep k r.1,HRs.keep k r.2⟩
 | [],_ :: _,r=>r.elim
 | _ :: _,[],r=>r.elim
end
section
variable {prog:Program} {w:World}
theorem JV:∀ (n:Nat) {A:Around} {E:Value->Shared->Prop} {s:Shared} {p:PV} {v:Value} {Q:Int->Shared->Prop},p.ky n=true->A.units+n < cLine->HR s.heap p v->Q (hsh w p) { s with toks:=s.toks+drw p }->
  wpAny (model prog w) A (pyHash v) Q E s:=by
 intro n
 induction n with
 | zero=>
  intro A E s p v Q hk hu r h;cases p with
  | int i=>obtain ⟨t,rfl⟩:=r; exact wpAny_pyHash_int h
  | str i=>obtain ⟨t,rfl⟩:=r; exact wpAny_pyHash_str h
  | _=>cases hk
 | succ n ih=>
  intro A E s p v Q hk hu r h;cases p with
  | int i=>obtain ⟨t,rfl⟩:=r; exact wpAny_pyHash_int h
  | str i=>obtain ⟨t,rfl⟩:=r; exact wpAny_pyHash_str h
  | tup ps=>
   obtain ⟨a,its,rfl,⟨o,ho,hc,m,hd⟩,rs⟩:=r;have hk':∀ q∈ps,q.ky n=true:=cg.mp hk;have hT:s.TypeIs (.ref a) "tuple" := ⟨o,ho,hc⟩;unfold pyHash; unfold pyHashByItsType;refine aa (wpAny_cRoomFor_or (.inr (show A.units < cLine by omega)) (aa (wpAny_specialOf hT F.slot_tuple_hash.lookup ?_)))
   show wpAny _ _ (if ((some (Value.builtin "tuple.__hash__"):Option Value) == some cq)=true then _ else _) Q E s
   rw [if_neg (show ¬ _ from by rw [beq_builtin_none]; decide)]
   refine aa (wpAny_specialOf hT F.slot_tuple_hash.lookup (show wpAny _ _ (callSpecialIfBoundUnlessNone? (.ref a) "__hash__" _ >>= _) Q E s from ?_))
   refine aa (wpAny_callSpecialIfBoundUnlessNone?_slot hT F.slot_tuple_hash (ir F.slot_tuple_hash hT F.entry_tuple_hash (show wpAny _ _ (kn (.ref a) >>= _) _ _ s from ?_) (F.args_tuple_hash_1 _)))
   refine aa (wpAny_tupleItemsOf ho hd (aa ?_)); rw [<- Array.forIn_toList];refine wpAny_forIn_list _ (fun rest (b:Array Int) s'=>∃ left,HRs s.heap left rest/\(∀ q∈left,q.ky n=true)/\b.toList++sM w left=sM w ps/\s'.heap=s.heap/\s'={ s with toks:=s'.toks }/\s'.toks+C2 left=s.toks+C2 ps) _ ?turn ?stop _ _ ⟨ps,rs,hk',rfl,rfl,rfl,rfl⟩
   case turn=>
    rintro x rest b s' ⟨left,rl,kl,eb,eh,es,et⟩;cases left with
    | nil=>exact rl.elim
    | cons q left=>
     have r1:HR s'.heap q x:=by rw [eh]; exact rl.1
     refine aa (ih (kl q ak) (show A.units+1+n < cLine by omega) r1 (ag ?_));refine ⟨left,rl.2,fun z hz=>kl z (aq _ hz),?_,eh,?_,?_⟩
     ·rw [<- eb]; simp [sM]
     ·rw [es]
     ·rw [<- et]
      show s'.toks+drw q+C2 left=s'.toks+(drw q+C2 left)
      omega
   case stop=>
    rintro b s' ⟨left,rl,kl,eb,eh,es,et⟩;cases left with
    | cons q left=>exact rl.elim
    | nil=>
     have eb':b.toList=sM w ps:=by rw [<- eb]; simp [sM]
     have et':s'.toks=s.toks+C2 ps:=et
     show wpAny _ _ (retInt (d6 b.toList)) _ _ _
     rw [eb',es];refine wpAny_ret_mkInt ?_
     show wpAny _ _ (if (decide (-(2:Int) ^ 63<=d6 (sM w ps)) && decide (d6 (sM w ps) < 2 ^ 63))=true then _ else _) Q E _
     have h':Q (reduceHash (d6 (sM w ps))) { s with toks:=s.toks+(C2 ps+1) }:=h;unfold reduceHash at h';rw [et']
     by_cases hr:(decide (-(2:Int) ^ 63<=d6 (sM w ps)) && decide (d6 (sM w ps) < 2 ^ 63))=true
     ·rw [if_pos hr] at h' ⊢;exact ag (by simpa [Nat.add_assoc] using h')
     ·rw [if_neg hr] at h' ⊢;exact aa (jf (ag (by simpa [Nat.add_assoc] using h')))
  | _=>cases hk
theorem QA:∀ (n:Nat) {A:Around} {s:Shared} {p q:PV} {v u:Value},p.ky n=true->q.ky n=true->A.units+n < cLine->HR s.heap p v->HR s.heap q u->RcAt A s v u (decide (p=q)):=by
 intro n
 induction n with
 | zero=>
  intro A s p q v u hp hq hu r r';cases p with
  | int i=>
   obtain ⟨t,rfl⟩:=r;cases q with
   | int j=>obtain ⟨t',rfl⟩:=r'; have:=RcAt.int_int (A:=A) (s:=s) i t j t'; rwa [show decide (PV.int i=PV.int j)=(i == j) by simp [kc]]
   | str j=>obtain ⟨t',rfl⟩:=r'; exact RcAt.int_str i t j t'
   | _=>cases hq
  | str i=>
   obtain ⟨t,rfl⟩:=r;cases q with
   | int j=>obtain ⟨t',rfl⟩:=r'; exact RcAt.str_int i t j t'
   | str j=>obtain ⟨t',rfl⟩:=r'; have:=RcAt.str_str (A:=A) (s:=s) i t j t'; rwa [show decide (PV.str i=PV.str j)=(i == j) by simp [kc]]
   | _=>cases hq
  | _=>cases hp
 | succ n ih=>
  intro A s p q v u hp hq hu r r';cases p with
  | int i=>
   obtain ⟨t,rfl⟩:=r;cases q with
   | int j=>obtain ⟨t',rfl⟩:=r'; have:=RcAt.int_int (A:=A) (s:=s) i t j t'; rwa [show decide (PV.int i=PV.int j)=(i == j) by simp [kc]]
   | str j=>obtain ⟨t',rfl⟩:=r'; exact RcAt.int_str i t j t'
   | tup js=>obtain ⟨b,its,rfl,p',_⟩:=r'; exact RcAt.int_tuple i t p' (by omega)
   | _=>cases hq
  | str i=>
   obtain ⟨t,rfl⟩:=r;cases q with
   | int j=>obtain ⟨t',rfl⟩:=r'; exact RcAt.str_int i t j t'
   | str j=>obtain ⟨t',rfl⟩:=r'; have:=RcAt.str_str (A:=A) (s:=s) i t j t'; rwa [show decide (PV.str i=PV.str j)=(i == j) by simp [kc]]
   | tup js=>obtain ⟨b,its,rfl,p',_⟩:=r'; exact RcAt.str_tuple i t p' (by omega)
   | _=>cases hq
  | tup ps=>
   obtain ⟨a,its,rfl,ta,rs⟩:=r;cases q with
   | int j=>obtain ⟨t',rfl⟩:=r'; exact RcAt.tuple_int j t' ta (by omega)
   | str j=>obtain ⟨t',rfl⟩:=r'; exact RcAt.tuple_str j t' ta (by omega)
   | tup qs=>
    obtain ⟨b,its',rfl,tb,rs'⟩:=r';have kp:∀ z∈ps,z.ky n=true:=cg.mp hp;have kq:∀ z∈qs,z.ky n=true:=cg.mp hq;have l1:=rs.length;have l2:=rs'.length;have key:=RcAt.tuples (A:=A) (e:=fun j=>match ps[j]?,qs[j]? with | some x,some y=>decide (x=y) | _,_=>false) ta tb (by omega) (fun j h1 h2=>by
     have h1':j < ps.length:=by simp at h1; omega
     have h2':j < qs.length:=by simp at h2; omega
     have g1:ps[j]?=some ps[j]:=by simp [h1']
     have g2:qs[j]?=some qs[j]:=by simp [h2']
     obtain ⟨xu,hxu,hru⟩:=rs.at g1;obtain ⟨yu,hyu,hru'⟩:=rs'.at g2;have e1:its.toArray[j]=xu:=by simpa using (ab.mp hxu).2
     have e2:its'.toArray[j]=yu:=by simpa using (ab.mp hyu).2
     rw [e1,e2];simp only [g1,g2];refine eI (ih (kp _ (ee h1')) (kq _ (ee h2')) (show A.units+1+n < cLine by omega) hru hru') (fun ev=>?_) (fun f t e=>?_)
     ·subst ev;rw [HR.one hru hru'];exact decide_eq_true rfl
     ·subst e;generalize ps[j]=z at hru;cases z with
      | int i=>obtain ⟨_,e⟩:=hru; cases e
      | str i=>obtain ⟨_,e⟩:=hru; cases e
      | tup i=>obtain ⟨_,_,e,_⟩:=hru; cases e
      | _=>exact hru.elim)
    have sz:((ax (min its.toArray.size its'.toArray.size)).all (fun j=>match ps[j]?,qs[j]? with | some x,some y=>decide (x=y) | _,_=>false) && its.toArray.size == its'.toArray.size)=decide (PV.tup ps=PV.tup qs):=by
     have a1:its.toArray.size=ps.length:=by simp; omega
     have a2:its'.toArray.size=qs.length:=by simp; omega
     rw [a1,a2,ip];simp only [cm,cg,d4,beq_iff_eq,decide_eq_true_eq,PV.tup.injEq];constructor
     ·rintro ⟨hall,hlen⟩;apply List.ext_getElem hlen;intro i hi hi';have:=hall i (by omega);simpa [hi,hi'] using this
     ·rintro rfl;refine ⟨fun x hx=>?_,rfl⟩;have:x < ps.length:=by omega
      simp [this]
    rw [<- sz];exact key
   | _=>cases hq
  | _=>cases hp
theorem HR.noflt {h:Heap} {p:PV} {v:Value} (r:HR h p v):∀ f t,v≠.float f t:=fun f t e=>by
 subst e;cases p with
 | int i=>obtain ⟨_,e⟩:=r; cases e
 | str i=>obtain ⟨_,e⟩:=r; cases e
 | tup i=>obtain ⟨_,_,e,_⟩:=r; cases e
 | _=>exact r.elim
theorem QB {n:Nat} {A:Around} {s:Shared} {p q:PV} {v u:Value} (hp:p.ky n=true) (hq:q.ky n=true) (hu:A.units+n < cLine) (r:HR s.heap p v) (r':HR s.heap q u):EqAt A s v u (decide (p=q)):=
 eI (QA n hp hq hu r r') (fun ev=>by subst ev; rw [HR.one r r']; exact decide_eq_true rfl) r.noflt
theorem Hl:∀ (n m:Nat) {A:Around} {E:Value->Shared->Prop} {s:Shared} {p:PV} {v:Value} {Q:Bool->Shared->Prop},p.ky n=true->n<=m->HR s.heap p v->Q true s->wpAny (model prog w) A (eqIsQuiet m v) Q E s:=by
 intro n
 induction n with
 | zero=>
  intro m A E s p v Q hk hm r h;cases p with
  | int i=>obtain ⟨t,rfl⟩:=r; rw [eqIsQuiet_byValue _ rfl]; exact ag h
  | str i=>obtain ⟨t,rfl⟩:=r; rw [eqIsQuiet_byValue _ rfl]; exact ag h
  | _=>cases hk
 | succ n ih=>
  intro m A E s p v Q hk hm r h;cases p with
  | int i=>obtain ⟨t,rfl⟩:=r; rw [eqIsQuiet_byValue _ rfl]; exact ag h
  | str i=>obtain ⟨t,rfl⟩:=r; rw [eqIsQuiet_byValue _ rfl]; exact ag h
  | tup ps=>
   obtain ⟨a,its,rfl,⟨o,ho,hc,m',hd⟩,rs⟩:=r;have hk':∀ q∈ps,q.ky n=true:=cg.mp hk;have hT:s.TypeIs (.ref a) "tuple" := ⟨o,ho,hc⟩;obtain ⟨m,rfl⟩:∃ j,m=j+1:=⟨m - 1,by omega⟩;unfold eqIsQuiet;refine aa (wpAny_specialOf hT F.slot_tuple_eq.lookup (show wpAny _ _ (isInstance (.ref a) (.type "tuple") >>= _) _ _ s from ?_))
   refine aa (wpAny_isInstance hT isSubtype_tuple_tuple ?_); simp only [Bool.not_true,dq,if_false];refine aa (wpAny_seqItems ho hd (aa (show wpAny _ _ (forIn its.toArray _ _) _ _ s from ?_))); rw [<- Array.forIn_toList]
   refine wpAny_forIn_list _ (fun rest r s'=>r.1=none/\s'=s/\∃ left,HRs s.heap left rest/\∀ q∈left,q.ky n=true) _ ?_ ?_ _ _ ⟨rfl,rfl,ps,rs,hk'⟩
   ·rintro v rest r s' ⟨hr,rfl,left,rl,kl⟩;cases left with
    | nil=>exact rl.elim
    | cons q left=>
     refine aa (ih m (kl q ak) (by omega) rl.1 ?_); simp only [Bool.not_true,dq,if_false];exact ag ⟨rfl,rfl,left,rl.2,fun z hz=>kl z (aq _ hz)⟩
   ·rintro ⟨r1,r2⟩ s' ⟨hr,rfl,_⟩; simp only at hr; subst hr;exact ag h
  | _=>cases hk
noncomputable def jR (prog:Program) (w:World):HeapKind prog w PV where
 is:=fun h p a=>p.ky 6=true/\HR h p (.ref a)
 hash:=hsh w
 draws:=drw
 room:=fun A=>A.units+6 < cLine
 inj:=fun x y=>HR.one x.2 y.2
 keeps:=fun x ho hd hs=>⟨x.1,HR.keep (fun a it p=>Ed p ho hd hs) x.2⟩
 pyHash:=fun hu x h=>JV 6 x.1 hu x.2 h
 eqBool:=fun hu x y h=>QB x.1 y.1 hu x.2 y.2 _ _ _ _ h
 quiet:=fun x h=>Hl 6 8 x.1 (by omega) x.2 h
end
noncomputable def dDO (w:World) (a:Addr) (ks:List (PV×Addr×V)):HO:=.ext fun h=>ks.length<=au/\(a == fg)=false/\∃ xs:List (PV×Addr×Value),
 Paired (fun (p:PV×Addr×V) (q:PV×Addr×Value)=>p.1=q.1/\p.2.1=q.2.1/\RelV p.2.2 q.2.2) ks xs/\
 ∃ o es ep,h.get? a=some o/\o.ExactDict/\o.data=.dict es ep/\es.toList=xs.map (fun x=>(⟨hsh w x.1,.ref x.2.1,x.2.2⟩:DictEntry))/\(xs.map (·.1)).Nodup
noncomputable def Ph (kd:Nat) (v d:Addr):HO:=.ext fun h=>match kd with
 | 0=>h.IsItemsView v d
 | 1=>h.IsValuesView v d
 | _=>∃ o,h.get? v=some o/\o.cls=.type "dict_keys" /\ o.data=.fields #[.ref d]
end L2
namespace L2
open PySem PySem.Spec PyProof.Rows
inductive MO where
 | lst (xs:List PV)
 | dK (kvs:List (Key×PV))
 | ins (C:Str) (fs:List (Str×PV))
 | dD (kvs:List (PV×PV))
 | vw (kd d:Nat)
 | fz (o:MO)
noncomputable abbrev PH:=List MO
noncomputable abbrev Ev:=List (Option PV)
structure PX where
 cls:Str
 fs:List (Str×PV)
inductive Rs (α:Type) where
 | ok (a:α) (h:PH)
 | exc (x:PX) (h:PH)
 | bad
inductive Fl where
 | nx (δ:Ev) (h:PH)
 | rt (p:PV) (h:PH)
 | bk (δ:Ev) (h:PH)
 | ct (δ:Ev) (h:PH)
 | exc (x:PX) (h:PH)
 | bad
noncomputable abbrev Me:=Ev->PH->Rs PV
noncomputable abbrev Ms:=Ev->PH->Fl
noncomputable abbrev Fn:=List PV->PH->Rs PV
noncomputable def Rs.bind {α β:Type} (r:Rs α) (f:α->PH->Rs β):Rs β:=match r with
 | .ok a h=>f a h
 | .exc x h=>.exc x h
 | .bad=>.bad
@[simp] theorem Rs.bind_ok {α β:Type} (a:α) (h:PH) (f:α->PH->Rs β):(Rs.ok a h).bind f=f a h:=rfl
@[simp] theorem Rs.bind_exc {α β:Type} (x:PX) (h:PH) (f:α->PH->Rs β):(Rs.exc x h:Rs α).bind f=.exc x h:=rfl
@[simp] theorem Rs.bind_bad {α β:Type} (f:α->PH->Rs β):(Rs.bad:Rs α).bind f=.bad:=rfl
structure MC where
 K:af
 cl:Str->Option Addr
 bs:List Str
 ex:List Addr->Hp->PX->Prop
 w:World
noncomputable def SqF (K:af) (H:Hp) (a:Addr) (xs:List V):Prop:=
 (∃ o,H a=some (.frz o (.lst xs)))\/
  ∃ (o:Obj) (its:Array Value) (n:Nat),K.lookup a=some o/\o.cls=.type "list" /\ o.dict=none/\o.data=.seq its n/\its.size<=au/\aN xs its.toList
theorem SqF.sq {K:af} {H:Hp} {a:Addr} {xs:List V} (h:SqF K H a xs):SqL K H a xs:=by
 rcases h with ⟨o,h⟩ | h
 ·exact .inl (.inr ⟨o,h⟩)
 ·exact .inr h
noncomputable def Kp (H H':Hp):Prop:=iS H H'/\∀ a o u,H a=some (.frz o u)->H' a=some (.frz o u)
theorem Kp.refl (H:Hp):Kp H H:=⟨iS.refl H,fun _ _ _ h=>h⟩
theorem Kp.trans {H H1 H2:Hp} (a:Kp H H1) (b:Kp H1 H2):Kp H H2:=⟨a.1.trans b.1,fun c o u h=>b.2 c o u (a.2 c o u h)⟩
theorem Kp.same {H H':Hp} (s:BO H H'):Kp H H':=⟨iS.same s,fun _ _ _ h=>s _ _ h⟩
theorem Kp.new {H:Hp} {a:Addr} {o:HO} (h:H a=none):Kp H (upd H a o):=Kp.same (BO.upd h)
theorem Kp.upd {H:Hp} {p:Addr} {o:HO} (h:BU (H p)):Kp H (upd H p o):=⟨iS.upd h,fun a ob u q=>by
 have ne:a≠p:=by
  rintro rfl;rw [q] at h; exact h
 rw [bG ne]; exact q⟩
theorem Kp.lst {H:Hp} {p:Addr} {o:HO} {xs:List V} (h:H p=some (.lst xs)):Kp H (L2.upd H p o):=Kp.upd (by rw [h]; trivial)
theorem Kp.dK {H:Hp} {p:Addr} {o:HO} {xs:List (Key×V)} (h:H p=some (.dK xs)):Kp H (L2.upd H p o):=Kp.upd (by rw [h]; trivial)
theorem Kp.sq {K:af} {H H':Hp} {a:Addr} {xs:List V} (t:Kp H H') (h:SqT K H a xs):SqT K H' a xs:=t.1.sq h
theorem Kp.sf {K:af} {H H':Hp} {a:Addr} {xs:List V} (t:Kp H H') (h:SqF K H a xs):SqF K H' a xs:=by
 rcases h with ⟨o,h⟩ | h
 ·exact .inl ⟨o,t.2 _ _ _ h⟩
 ·exact .inr h
section
variable (C:MC) (φ:List Addr) (H:Hp)
mutual
noncomputable def RV:PV->V->Prop
 | .non,v=>v=.non
 | .bl b,v=>v=.bl b
 | .int i,v=>v=.int i
 | .str x,v=>v=.str x
 | .ty n,v=>v=.ty n
 | .tup ps,v=>∃ a vs,v=.ref a/\SqT C.K H a vs/\RVs ps vs
 | .ref n,v=>∃ a,v=.ref a/\φ[n]?=some a
 | .fl ps,v=>∃ a vs,v=.ref a/\SqF C.K H a vs/\RVs ps vs
noncomputable def RVs:List PV->List V->Prop
 | [],[]=>True
 | p :: ps,v :: vs=>RV p v/\RVs ps vs
 | [],_ :: _=>False
 | _ :: _,[]=>False
end
noncomputable def RKv {κ:Type}:List (κ×PV)->List (κ×V)->Prop:=Paired fun p q=>p.1=q.1/\RV C φ H p.2 q.2
noncomputable def RKd:List (PV×PV)->List (PV×Addr×V)->Prop:=Paired fun p q=>p.1=q.1/\p.1.ky 6=true/\RV C φ H p.1 (.ref q.2.1)/\RV C φ H p.2 q.2.2
noncomputable def RO (a:Addr):MO->Prop
 | .lst ps=>∃ vs,H a=some (.lst vs)/\RVs C φ H ps vs
 | .dK kvs=>∃ ks,H a=some (.dK ks)/\RKv C φ H kvs ks
 | .ins n fs=>∃ c dx ks,C.cl n=some c/\H a=some (.ins c dx ks)/\RKv C φ H fs ks
 | .dD kvs=>∃ ks,H a=some (dDO C.w a ks)/\RKd C φ H kvs ks
 | .vw kd d=>∃ b,φ[d]?=some b/\H a=some (Ph kd a b)
 | .fz (.dK kvs)=>∃ ob ks,H a=some (.frz ob (.dK ks))/\RKv C φ H kvs ks
 | .fz (.dD kvs)=>∃ ob ks,H a=some (.frz ob (dDO C.w a ks))/\RKd C φ H kvs ks
 | .fz _=>False
structure RH (h:PH):Prop where
 len:φ.length=h.length
 nd:φ.Nodup
 at':∀ (n:Nat) (a:Addr) (o:MO),φ[n]?=some a->h[n]?=some o->RO C φ H a o
noncomputable def RE (δ:Ev) (σ:St):Prop:=δ.length=σ.length/\∀ (i:Nat) (p:PV),δ[i]?=some (some p)->∃ v,σ[i]?=some (some v)/\RV C φ H p v
end
section
variable {C:MC} {φ φ':List Addr} {H H':Hp}
theorem gL {α:Type} {l l':List α} (p:l<+:l') {n:Nat} {a:α} (h:l[n]?=some a):l'[n]?=some a:=by
 obtain ⟨t,rfl⟩:=p;have:=(ab.mp h).1;rw [dh this];exact h
noncomputable def Kq (H H':Hp):Prop:=iS H H'/\∀ a o xs,H a=some (.frz o (.lst xs))->H' a=some (.frz o (.lst xs))
theorem Kp.q (t:Kp H H'):Kq H H':=⟨t.1,fun a o xs h=>t.2 a o _ h⟩
theorem Kq.sq {K:af} {a:Addr} {xs:List V} (t:Kq H H') (h:SqT K H a xs):SqT K H' a xs:=t.1.sq h
theorem Kq.sf {K:af} {a:Addr} {xs:List V} (t:Kq H H') (h:SqF K H a xs):SqF K H' a xs:=by
 rcases h with ⟨o,h⟩ | h
 ·exact .inl ⟨o,t.2 _ _ _ h⟩
 ·exact .inr h
mutual
theorem RV.monoQ (p:φ<+:φ') (t:Kq H H'):∀ {x:PV} {v:V},RV C φ H x v->RV C φ' H' x v
 | .non,_,h=>h
 | .bl _,_,h=>h
 | .int _,_,h=>h
 | .str _,_,h=>h
 | .ty _,_,h=>h
 | .tup _,_,⟨a,vs,e,q,r⟩=>⟨a,vs,e,t.sq q,RVs.monoQ p t r⟩
 | .ref _,_,⟨a,e,q⟩=>⟨a,e,gL p q⟩
 | .fl _,_,⟨a,vs,e,q,r⟩=>⟨a,vs,e,t.sf q,RVs.monoQ p t r⟩
theorem RVs.monoQ (p:φ<+:φ') (t:Kq H H'):∀ {xs:List PV} {vs:List V},RVs C φ H xs vs->RVs C φ' H' xs vs
 | [],[],_=>trivial
 | _ :: _,_ :: _,⟨h,r⟩=>⟨RV.monoQ p t h,RVs.monoQ p t r⟩
 | [],_ :: _,h=>h.elim
 | _ :: _,[],h=>h.elim
end
theorem RV.mono (p:φ<+:φ') (t:Kp H H') {x:PV} {v:V} (h:RV C φ H x v):RV C φ' H' x v:=RV.monoQ p t.q h
theorem RVs.mono (p:φ<+:φ') (t:Kp H H') {xs:List PV} {vs:List V} (h:RVs C φ H xs vs):RVs C φ' H' xs vs:=RVs.monoQ p t.q h
theorem RVs.length:∀ {xs:List PV} {vs:List V},RVs C φ H xs vs->xs.length=vs.length
 | [],[],_=>rfl
 | _ :: _,_ :: _,⟨_,r⟩=>by simp [RVs.length r]
 | [],_ :: _,h=>h.elim
 | _ :: _,[],h=>h.elim
theorem RVs.get:∀ {xs:List PV} {vs:List V} {i:Nat} {v:V},RVs C φ H xs vs->vs[i]?=some v->∃ x,xs[i]?=some x/\RV C φ H x v
 | [],[],_,_,_,e=>by simp at e
 | x :: _,w :: _,0,v,⟨h,_⟩,e=>by
  have:w=v:=by simpa using e
  subst this;exact ⟨x,rfl,h⟩
 | _ :: xs,_ :: vs,i+1,v,⟨_,r⟩,e=>by
  obtain ⟨x,h1,h2⟩:=RVs.get (xs:=xs) (vs:=vs) (i:=i) (v:=v) r (by simpa using e)
  exact ⟨x,by simpa using h1,h2⟩
 | [],_ :: _,_,_,h,_=>h.elim
 | _ :: _,[],_,_,h,_=>h.elim
theorem RVs.at:∀ {xs:List PV} {vs:List V} {i:Nat} {x:PV},RVs C φ H xs vs->xs[i]?=some x->∃ v,vs[i]?=some v/\RV C φ H x v
 | [],[],_,_,_,e=>by simp at e
 | x :: _,w :: _,0,x',⟨h,_⟩,e=>by
  have:x=x':=by simpa using e
  subst this;exact ⟨w,rfl,h⟩
 | _ :: xs,_ :: vs,i+1,x,⟨_,r⟩,e=>by
  obtain ⟨v,h1,h2⟩:=RVs.at (xs:=xs) (vs:=vs) (i:=i) (x:=x) r (by simpa using e)
  exact ⟨v,by simpa using h1,h2⟩
 | [],_ :: _,_,_,h,_=>h.elim
 | _ :: _,[],_,_,h,_=>h.elim
theorem RVs.append:∀ {xs ys:List PV} {vs us:List V},RVs C φ H xs vs->RVs C φ H ys us->RVs C φ H (xs++ys) (vs++us)
 | [],_,[],_,_,h=>h
 | _ :: _,_,_ :: _,_,⟨h,r⟩,h'=>⟨h,RVs.append r h'⟩
 | [],_,_ :: _,_,h,_=>h.elim
 | _ :: _,_,[],_,h,_=>h.elim
theorem RVs.snoc {xs:List PV} {vs:List V} {x:PV} {v:V} (r:RVs C φ H xs vs) (h:RV C φ H x v):RVs C φ H (xs++[x]) (vs++[v]):=r.append ⟨h,trivial⟩
theorem RVs.drop:∀ {xs:List PV} {vs:List V} (n:Nat),RVs C φ H xs vs->RVs C φ H (xs.drop n) (vs.drop n)
 | _,_,0,h=>h
 | [],[],_+1,_=>trivial
 | _ :: _,_ :: _,n+1,⟨_,r⟩=>RVs.drop n r
 | [],_ :: _,_+1,h=>h.elim
 | _ :: _,[],_+1,h=>h.elim
theorem RVs.take:∀ {xs:List PV} {vs:List V} (n:Nat),RVs C φ H xs vs->RVs C φ H (xs.take n) (vs.take n)
 | [],[],0,_=>trivial
 | _ :: _,_ :: _,0,_=>trivial
 | [],[],_+1,_=>trivial
 | _ :: _,_ :: _,n+1,⟨h,r⟩=>⟨h,RVs.take n r⟩
 | [],_ :: _,_,h=>h.elim
 | _ :: _,[],_,h=>h.elim
theorem RVs.set {x:PV} {v:V} (h:RV C φ H x v):∀ {xs:List PV} {vs:List V} (n:Nat),RVs C φ H xs vs->RVs C φ H (xs.set n x) (vs.set n v)
 | [],[],_,_=>trivial
 | _ :: _,_ :: _,0,⟨_,r⟩=>⟨h,r⟩
 | _ :: _,_ :: _,n+1,⟨q,r⟩=>⟨q,RVs.set h n r⟩
 | [],_ :: _,_,h=>h.elim
 | _ :: _,[],_,h=>h.elim
theorem RVs.reverse:∀ {xs:List PV} {vs:List V},RVs C φ H xs vs->RVs C φ H xs.reverse vs.reverse
 | [],[],_=>trivial
 | _ :: _,_ :: _,⟨h,r⟩=>by simp only [List.reverse_cons]; exact (RVs.reverse r).append ⟨h,trivial⟩
 | [],_ :: _,h=>h.elim
 | _ :: _,[],h=>h.elim
theorem RKv.monoQ {κ:Type} (p:φ<+:φ') (t:Kq H H') {x:List (κ×PV)} {v:List (κ×V)} (h:RKv C φ H x v):RKv C φ' H' x v:=Paired.mapP h fun _ _ q=>⟨q.1,q.2.monoQ p t⟩
theorem RKd.monoQ (p:φ<+:φ') (t:Kq H H') {x:List (PV×PV)} {v:List (PV×Addr×V)} (h:RKd C φ H x v):RKd C φ' H' x v:=Paired.mapP h fun _ _ q=>⟨q.1,q.2.1,q.2.2.1.monoQ p t,q.2.2.2.monoQ p t⟩
theorem RKv.mono {κ:Type} (p:φ<+:φ') (t:Kp H H') {x:List (κ×PV)} {v:List (κ×V)} (h:RKv C φ H x v):RKv C φ' H' x v:=Paired.mapP h fun _ _ q=>⟨q.1,q.2.mono p t⟩
theorem RKd.mono (p:φ<+:φ') (t:Kp H H') {x:List (PV×PV)} {v:List (PV×Addr×V)} (h:RKd C φ H x v):RKd C φ' H' x v:=Paired.mapP h fun _ _ q=>⟨q.1,q.2.1,q.2.2.1.mono p t,q.2.2.2.mono p t⟩
theorem RE.mono (p:φ<+:φ') (t:Kp H H') {δ:Ev} {σ:St} (h:RE C φ H δ σ):RE C φ' H' δ σ:=⟨h.1,fun i x e=>let ⟨v,q,r⟩:=h.2 i x e; ⟨v,q,r.mono p t⟩⟩
theorem RE.set {δ:Ev} {σ:St} {x:PV} {v:V} (h:RE C φ H δ σ) (r:RV C φ H x v) (i:Nat):RE C φ H (δ.set i (some x)) (σ.set i (some v)):=by
 refine ⟨by rw [de,de]; exact h.1,fun j p e=>?_⟩
 by_cases hj:i=j
 ·subst hj
  by_cases hl:i < δ.length
  ·rw [fh hl] at e;cases e
   exact ⟨v,by rw [fh (by rw [<- h.1]; exact hl)],r⟩
  ·rw [kg (by rw [de]; omega)] at e;cases e
 ·rw [a8 hj] at e;rw [a8 hj];exact h.2 j p e
theorem RO.stayQ {a:Addr} {o:MO} (p:φ<+:φ') (t:Kq H H') (e:H' a=H a) (h:RO C φ H a o):RO C φ' H' a o:=by
 cases o with
 | lst ps=>obtain ⟨vs,q,r⟩:=h; exact ⟨vs,e.trans q,r.monoQ p t⟩
 | dK ps=>obtain ⟨vs,q,r⟩:=h; exact ⟨vs,e.trans q,r.monoQ p t⟩
 | ins n fs=>obtain ⟨c,dx,ks,hc,q,r⟩:=h; exact ⟨c,dx,ks,hc,e.trans q,r.monoQ p t⟩
 | dD kvs=>obtain ⟨ks,q,r⟩:=h; exact ⟨ks,e.trans q,r.monoQ p t⟩
 | vw kd d=>obtain ⟨b,hb,q⟩:=h; exact ⟨b,gL p hb,e.trans q⟩
 | fz o=>
  cases o with
  | dK kvs=>obtain ⟨ob,ks,q,r⟩:=h; exact ⟨ob,ks,e.trans q,r.monoQ p t⟩
  | dD kvs=>obtain ⟨ob,ks,q,r⟩:=h; exact ⟨ob,ks,e.trans q,r.monoQ p t⟩
  | _=>exact h.elim
theorem RO.stay {a:Addr} {o:MO} (p:φ<+:φ') (t:Kp H H') (e:H' a=H a) (h:RO C φ H a o):RO C φ' H' a o:=h.stayQ p t.q e
theorem RO.some {a:Addr} {o:MO} (h:RO C φ H a o):∃ u,H a=some u:=by
 cases o with
 | lst ps=>obtain ⟨vs,q,r⟩:=h; exact ⟨_,q⟩
 | dK ps=>obtain ⟨vs,q,r⟩:=h; exact ⟨_,q⟩
 | ins n fs=>obtain ⟨c,dx,ks,hc,q,r⟩:=h; exact ⟨_,q⟩
 | dD kvs=>obtain ⟨ks,q,r⟩:=h; exact ⟨_,q⟩
 | vw kd d=>obtain ⟨b,hb,q⟩:=h; exact ⟨_,q⟩
 | fz o=>
  cases o with
  | dK kvs=>obtain ⟨ob,ks,q,r⟩:=h; exact ⟨_,q⟩
  | dD kvs=>obtain ⟨ob,ks,q,r⟩:=h; exact ⟨_,q⟩
  | _=>exact h.elim
theorem RH.get {h:PH} (r:RH C φ H h) {n:Nat} {o:MO} (e:h[n]?=some o):∃ a,φ[n]?=some a/\RO C φ H a o:=by
 have hn:=(ab.mp e).1;have:n < φ.length:=by rw [r.len]; exact hn
 exact ⟨φ[n],by simp [this],r.at' n _ o (by simp [this]) e⟩
theorem RH.tracked {h:PH} (r:RH C φ H h) {n:Nat} {a:Addr} (e:φ[n]?=some a):∃ u,H a=some u:=by
 have hn:=(ab.mp e).1;have:n < h.length:=by rw [<- r.len]; exact hn
 exact (r.at' n a h[n] e (by simp [this])).some
theorem RH.aside {h:PH} (r:RH C φ H h) {a:Addr} {o:HO} (e:H a=none):RH C φ (upd H a o) h:=
 ⟨r.len,r.nd,fun n b ob h1 h2=>by
  have q:=r.at' n b ob h1 h2;obtain ⟨u,hu⟩:=q.some;exact q.stay (av) (Kp.new e) (bG (cN hu e))⟩
theorem RH.new {h:PH} (r:RH C φ H h) {a:Addr} {u:HO} {o:MO} (e:H a=none) (q:RO C (φ++[a]) (upd H a u) a o):RH C (φ++[a]) (upd H a u) (h++[o]):=by
 refine ⟨by simp [r.len],?_,fun n b ob h1 h2=>?_⟩
 ·rw [ie];refine ⟨r.nd,by simp,fun x hx y hy z=>?_⟩;rw [bj] at hy;subst hy z;obtain ⟨n,hn⟩:=dr.mp hx;obtain ⟨u',hu⟩:=r.tracked hn;rw [e] at hu; cases hu
 ·by_cases hn:n < φ.length
  ·rw [dh hn] at h1;rw [dh (by rw [<- r.len]; exact hn)] at h2;have q':=r.at' n b ob h1 h2;obtain ⟨u',hu⟩:=q'.some;exact q'.stay (cw _ _) (Kp.new e) (bG (cN hu e))
  ·have hn':n=φ.length:=by
    have:=(ab.mp h1).1;simp at this;omega
   subst hn';rw [e9 (ai _),Nat.sub_self] at h1;rw [r.len,e9 (ai _),Nat.sub_self] at h2;cases h1
   cases h2
   exact q
theorem RH.write {h:PH} (r:RH C φ H h) {n:Nat} {a:Addr} {u:HO} {o:MO} (e:φ[n]?=some a) (t:BU (H a)) (q:RO C φ (upd H a u) a o):RH C φ (upd H a u) (h.set n o):=by
 refine ⟨by rw [de]; exact r.len,r.nd,fun m b ob h1 h2=>?_⟩
 by_cases hm:n=m
 ·subst hm;rw [e] at h1; cases h1;have hl:n < h.length:=by rw [<- r.len]; exact (ab.mp e).1
  rw [fh hl] at h2;cases h2
  exact q
 ·rw [a8 hm] at h2;have hb:b≠a:=fun z=>by
   subst z;exact hm ((List.getElem?_inj (ab.mp e).1 r.nd).mp (e.trans h1.symm))
  exact (r.at' m b ob h1 h2).stay av (Kp.upd t) (bG hb)
end
section
variable (C:MC) (φ:List Addr) (H:Hp)
noncomputable def post (r:Rs PV) (Q:VK):Prop:=match r with
 | .ok p h=>∀ φ' v H',φ<+:φ'->Kp H H'->RH C φ' H' h->RV C φ' H' p v->Q v H'
 | .exc x h=>∀ φ' H',φ<+:φ'->Kp H H'->RH C φ' H' h->C.ex φ' H' x
 | .bad=>False
noncomputable def bY (r:Rs Bool) (Q:Bool->Hp->Prop):Prop:=match r with
 | .ok b h=>∀ φ' H',φ<+:φ'->Kp H H'->RH C φ' H' h->Q b H'
 | .exc x h=>∀ φ' H',φ<+:φ'->Kp H H'->RH C φ' H' h->C.ex φ' H' x
 | .bad=>False
noncomputable def postA (r:Rs (List PV)) (Q:List V->Hp->Prop):Prop:=match r with
 | .ok ps h=>∀ φ' vs H',φ<+:φ'->Kp H H'->RH C φ' H' h->RVs C φ' H' ps vs->Q vs H'
 | .exc x h=>∀ φ' H',φ<+:φ'->Kp H H'->RH C φ' H' h->C.ex φ' H' x
 | .bad=>False
noncomputable def cE (r:Fl) (D:Ends):Prop:=match r with
 | .nx δ h=>∀ φ' σ H',φ<+:φ'->Kp H H'->RH C φ' H' h->RE C φ' H' δ σ->D.nx σ H'
 | .rt p h=>∀ φ' v H',φ<+:φ'->Kp H H'->RH C φ' H' h->RV C φ' H' p v->D.rt v H'
 | .bk δ h=>∀ φ' σ H',φ<+:φ'->Kp H H'->RH C φ' H' h->RE C φ' H' δ σ->D.bk σ H'
 | .ct δ h=>∀ φ' σ H',φ<+:φ'->Kp H H'->RH C φ' H' h->RE C φ' H' δ σ->D.ct σ H'
 | .exc x h=>∀ φ' H',φ<+:φ'->Kp H H'->RH C φ' H' h->C.ex φ' H' x
 | .bad=>False
end
section
variable {C:MC} {φ φ1:List Addr} {H H1:Hp}
theorem post.weak {r:Rs PV} {Q:VK} (p:φ<+:φ1) (t:Kp H H1) (h:post C φ H r Q):post C φ1 H1 r Q:=by
 cases r with
 | ok a h'=>exact fun φ' v H' p' t'=>h φ' v H' (p.trans p') (t.trans t')
 | exc a h'=>exact fun φ' H' p' t'=>h φ' H' (p.trans p') (t.trans t')
 | bad=>exact h
theorem bY.weak {r:Rs Bool} {Q:Bool->Hp->Prop} (p:φ<+:φ1) (t:Kp H H1) (h:bY C φ H r Q):bY C φ1 H1 r Q:=by
 cases r with
 | ok a h'=>exact fun φ' H' p' t'=>h φ' H' (p.trans p') (t.trans t')
 | exc a h'=>exact fun φ' H' p' t'=>h φ' H' (p.trans p') (t.trans t')
 | bad=>exact h
theorem postA.weak {r:Rs (List PV)} {Q:List V->Hp->Prop} (p:φ<+:φ1) (t:Kp H H1) (h:postA C φ H r Q):postA C φ1 H1 r Q:=by
 cases r with
 | ok a h'=>exact fun φ' v H' p' t'=>h φ' v H' (p.trans p') (t.trans t')
 | exc a h'=>exact fun φ' H' p' t'=>h φ' H' (p.trans p') (t.trans t')
 | bad=>exact h
theorem cE.weak {r:Fl} {D:Ends} (p:φ<+:φ1) (t:Kp H H1) (h:cE C φ H r D):cE C φ1 H1 r D:=by
 cases r with
 | nx a h'=>exact fun φ' v H' p' t'=>h φ' v H' (p.trans p') (t.trans t')
 | rt a h'=>exact fun φ' v H' p' t'=>h φ' v H' (p.trans p') (t.trans t')
 | bk a h'=>exact fun φ' v H' p' t'=>h φ' v H' (p.trans p') (t.trans t')
 | ct a h'=>exact fun φ' v H' p' t'=>h φ' v H' (p.trans p') (t.trans t')
 | exc a h'=>exact fun φ' H' p' t'=>h φ' H' (p.trans p') (t.trans t')
 | bad=>exact h
theorem post.imp {r:Rs PV} {Q Q':VK} (h:post C φ H r Q) (i:∀ v H',Q v H'->Q' v H'):post C φ H r Q':=by
 cases r with
 | ok a h'=>exact fun φ' v H' p t rh rv=>i v H' (h φ' v H' p t rh rv)
 | exc a h'=>exact h
 | bad=>exact h
theorem post.bind {r:Rs PV} {f:PV->PH->Rs PV} {Q:VK} (h:post C φ H (r.bind f) Q):post C φ H r fun v H1=>∃ φ1 p h1,φ<+:φ1/\Kp H H1/\RH C φ1 H1 h1/\RV C φ1 H1 p v/\post C φ1 H1 (f p h1) Q:=by
 cases r with
 | ok a h'=>exact fun φ' v H' p t rh rv=>⟨φ',a,h',p,t,rh,rv,post.weak p t h⟩
 | exc a h'=>exact h
 | bad=>exact h
theorem post.bindB {r:Rs PV} {f:PV->PH->Rs Bool} {Q:Bool->Hp->Prop} (h:bY C φ H (r.bind f) Q):post C φ H r fun v H1=>∃ φ1 p h1,φ<+:φ1/\Kp H H1/\RH C φ1 H1 h1/\RV C φ1 H1 p v/\bY C φ1 H1 (f p h1) Q:=by
 cases r with
 | ok a h'=>exact fun φ' v H' p t rh rv=>⟨φ',a,h',p,t,rh,rv,bY.weak p t h⟩
 | exc a h'=>exact h
 | bad=>exact h
theorem bY.bind {r:Rs Bool} {f:Bool->PH->Rs PV} {Q:VK} (h:post C φ H (r.bind f) Q):bY C φ H r fun b H1=>∃ φ1 h1,φ<+:φ1/\Kp H H1/\RH C φ1 H1 h1/\post C φ1 H1 (f b h1) Q:=by
 cases r with
 | ok a h'=>exact fun φ' H' p t rh=>⟨φ',h',p,t,rh,post.weak p t h⟩
 | exc a h'=>exact h
 | bad=>exact h
theorem bY.bindB {r:Rs Bool} {f:Bool->PH->Rs Bool} {Q:Bool->Hp->Prop} (h:bY C φ H (r.bind f) Q):bY C φ H r fun b H1=>∃ φ1 h1,φ<+:φ1/\Kp H H1/\RH C φ1 H1 h1/\bY C φ1 H1 (f b h1) Q:=by
 cases r with
 | ok a h'=>exact fun φ' H' p t rh=>⟨φ',h',p,t,rh,bY.weak p t h⟩
 | exc a h'=>exact h
 | bad=>exact h
theorem postA.bind {r:Rs (List PV)} {f:List PV->PH->Rs PV} {Q:VK} (h:post C φ H (r.bind f) Q):postA C φ H r fun vs H1=>∃ φ1 ps h1,φ<+:φ1/\Kp H H1/\RH C φ1 H1 h1/\RVs C φ1 H1 ps vs/\post C φ1 H1 (f ps h1) Q:=by
 cases r with
 | ok a h'=>exact fun φ' v H' p t rh rv=>⟨φ',a,h',p,t,rh,rv,post.weak p t h⟩
 | exc a h'=>exact h
 | bad=>exact h
theorem postA.bindA {r:Rs (List PV)} {f:List PV->PH->Rs (List PV)} {Q:List V->Hp->Prop} (h:postA C φ H (r.bind f) Q):postA C φ H r fun vs H1=>∃ φ1 ps h1,φ<+:φ1/\Kp H H1/\RH C φ1 H1 h1/\RVs C φ1 H1 ps vs/\postA C φ1 H1 (f ps h1) Q:=by
 cases r with
 | ok a h'=>exact fun φ' v H' p t rh rv=>⟨φ',a,h',p,t,rh,rv,postA.weak p t h⟩
 | exc a h'=>exact h
 | bad=>exact h
theorem post.bindA {r:Rs PV} {f:PV->PH->Rs (List PV)} {Q:List V->Hp->Prop} (h:postA C φ H (r.bind f) Q):post C φ H r fun v H1=>∃ φ1 p h1,φ<+:φ1/\Kp H H1/\RH C φ1 H1 h1/\RV C φ1 H1 p v/\postA C φ1 H1 (f p h1) Q:=by
 cases r with
 | ok a h'=>exact fun φ' v H' p t rh rv=>⟨φ',a,h',p,t,rh,rv,postA.weak p t h⟩
 | exc a h'=>exact h
 | bad=>exact h
theorem post.val {p:PV} {v:V} {h:PH} {Q:VK} (q:post C φ H (.ok p h) Q) (rh:RH C φ H h) (rv:RV C φ H p v):Q v H:=q φ v H av (Kp.refl H) rh rv
end
end L2
namespace L2
open PySem PySem.Spec PyProof.Rows
structure Cxt (C:MC) (k:Nat) (X:Cx):Prop where
 K:X.K=C.K
 calm:X.calm=true
 room:fQ k X.A
 bn:∀ x∈C.bs,X.mg x=none
 w:X.w=C.w
theorem Cxt.hu {C:MC} {k:Nat} {X:Cx} (c:Cxt C k X):X.A.units+1 < cLine:=Sm c.room
theorem Cxt.hu64 {C:MC} {k:Nat} {X:Cx} (c:Cxt C k X):X.A.units+64 < cLine:=c.room.units
theorem Cxt.comp {C:MC} {k:Nat} {X:Cx} (c:Cxt C k X) (sc:Scope) (N:List Str) (a:Addr) (fp:List Addr) (s:Shared) (H:Hp):Cxt C k (X.comp sc N a fp s H):=⟨c.K,c.calm,c.room,c.bn,c.w⟩
section
variable (C:MC)
noncomputable def rd (m:Me):TE:=fun σ H Q=>∃ φ δ h,RH C φ H h/\RE C φ H δ σ/\post C φ H (m δ h) Q
noncomputable def rdB (m:Ev->PH->Rs Bool):TT:=fun σ H Q=>∃ φ δ h,RH C φ H h/\RE C φ H δ σ/\bY C φ H (m δ h) Q
noncomputable def rdA (m:Ev->PH->Rs (List PV)):TA:=fun σ H Q=>∃ φ δ h,RH C φ H h/\RE C φ H δ σ/\postA C φ H (m δ h) Q
noncomputable def rdS (m:Ms):TS:=fun D σ H=>∃ φ δ h,RH C φ H h/\RE C φ H δ σ/\cE C φ H (m δ h) D
noncomputable def r2 (g:PV->PV->PH->Rs PV):R2:=fun x y H Q=>∃ φ h p q,RH C φ H h/\RV C φ H p x/\RV C φ H q y/\post C φ H (g p q h) Q
noncomputable def r1 (g:PV->PH->Rs PV):V->Hp->VK->Prop:=fun x H Q=>∃ φ h p,RH C φ H h/\RV C φ H p x/\post C φ H (g p h) Q
noncomputable def rL (g:List PV->PH->Rs PV):List V->Hp->VK->Prop:=fun xs H Q=>∃ φ h ps,RH C φ H h/\RVs C φ H ps xs/\post C φ H (g ps h) Q
end
variable {C:MC} {k:Nat} {X:Cx}
noncomputable def SE (C:MC) (k:Nat) (X:Cx) (e:Expr) (m:Me):Prop:=Cxt C k X->PE X e (rd C m)
noncomputable def ST (C:MC) (k:Nat) (X:Cx) (e:Expr) (m:Ev->PH->Rs Bool):Prop:=Cxt C k X->PT X e (rdB C m)
noncomputable def SA (C:MC) (k:Nat) (X:Cx) (es:List Expr) (m:Ev->PH->Rs (List PV)):Prop:=Cxt C k X->PA X es (rdA C m)
noncomputable def SSt (C:MC) (k:Nat) (X:Cx) (st:Stmt) (m:Ms):Prop:=Cxt C k X->PS X st (rdS C m)
noncomputable def SSs (C:MC) (k:Nat) (X:Cx) (st:List Stmt) (m:Ms):Prop:=Cxt C k X->PSs X st (rdS C m)
noncomputable def OpS (C:MC) (k:Nat) (X:Cx) (f:Value->Value->Sem Value) (g:PV->PV->PH->Rs PV):Prop:=Cxt C k X->OpR X f (r2 C g)
noncomputable def UnS (C:MC) (k:Nat) (X:Cx) (f:Value->Sem Value) (g:PV->PH->Rs PV):Prop:=Cxt C k X->UnR X f (r1 C g)
noncomputable def gM (C:MC) (k:Nat) (X:Cx) (f:Value) (g:List PV->PH->Rs PV):Prop:=Cxt C k X->bT X f (rL C g)
noncomputable def Ax:Ev->Nat->Option PV
 | [],_=>none
 | x :: _,0=>x
 | _ :: r,n+1=>Ax r n
@[simp] theorem yQ (x:Option PV) (r:Ev):Ax (x :: r) 0=x:=(rfl)
@[simp] theorem yR (x:Option PV) (r:Ev) (n:Nat):Ax (x :: r) (n+1)=Ax r n:=(rfl)
theorem tX:∀ {δ:Ev} {i:Nat} {p:PV},Ax δ i=some p->δ[i]?=some (some p)
 | [],_,_,h=>by cases h
 | x :: _,0,p,h=>by
  have h':x=some p:=h;simp [h']
 | _ :: r,n+1,p,h=>by
  rw [ft];exact tX (δ:=r) (i:=n) h
noncomputable def mV (i:Nat):Me:=fun δ h=>match Ax δ i with
 | some p=>.ok p h
 | none=>.bad
noncomputable def mC (p:PV):Me:=fun _ h=>.ok p h
theorem aA (i:Nat) {x:Str} {pos:Pos} (hN:X.N[i]?=some x:=by rfl) (hv:Vis X.env.scope x:=by first | exact Or.inl rfl | exact Or.inr (Or.inl rfl) | exact Or.inr (Or.inr rfl)) (hd:(x == ("__debug__" : Str))=false:=by decide)
  (hcd:(x == ("__classdict__" : Str))=false:=by decide):SE C k X (.Name x pos) (mV i):=fun _=>by
 refine (DM hN hv hd hcd).imp fun σ H Q h=>?_;obtain ⟨φ,δ,h,rh,re,p⟩:=h;unfold mV at p;cases e:Ax δ i with
 | none=>rw [e] at p; exact p.elim
 | some x=>
  rw [e] at p;obtain ⟨v,hv,rv⟩:=re.2 i x (tX e);exact ⟨v,hv,p.val rh rv⟩
theorem aH {i j pos}:SE C k X (.Constant (.int i) j pos) (mC (.int i)):=fun _=>Pz.imp fun σ H Q ⟨φ,δ,h,rh,re,p⟩=>p.val rh rfl
theorem JW {i j pos}:SE C k X (.Constant (.bool i) j pos) (mC (.bl i)):=fun _=>RW.imp fun σ H Q ⟨φ,δ,h,rh,re,p⟩=>p.val rh rfl
theorem G3 {j pos}:SE C k X (.Constant .none j pos) (mC .non):=fun _=>PB.imp fun σ H Q ⟨φ,δ,h,rh,re,p⟩=>p.val rh rfl
theorem jS {i j pos}:SE C k X (.Constant (.str i) j pos) (mC (.str i)):=fun _=>PC.imp fun σ H Q ⟨φ,δ,h,rh,re,p⟩=>p.val rh rfl
noncomputable def aE (g:PV->PV->PH->Rs PV) (ma mb:Me):Me:=fun δ h=>(ma δ h).bind fun x h1=>(mb δ h1).bind fun y h2=>g x y h2
theorem G4 {g:PV->PV->PH->Rs PV} {ma mb:Me} {σ:St} {H:Hp} {Q:VK} (h:rd C (aE g ma mb) σ H Q):tOp (r2 C g) (rd C ma) (rd C mb) σ H Q:=by
 obtain ⟨φ,δ,h,rh,re,p⟩:=h;refine ⟨φ,δ,h,rh,re,(post.bind p).imp ?_⟩;rintro v H1 ⟨φ1,x,h1,p1,t1,rh1,rv1,q1⟩;refine ⟨φ1,δ,h1,rh1,re.mono p1 t1,(post.bind q1).imp ?_⟩;rintro u H2 ⟨φ2,y,h2,p2,t2,rh2,rv2,q2⟩;exact ⟨φ2,h2,x,y,rh2,rv1.mono p2 t2,rv2,q2⟩
section
variable {a b e:Expr} {ma mb:Me} {g:PV->PV->PH->Rs PV} {pos:Pos}
theorem aL {op:Operator} (ho:OpS C k X (fe op) g) (ha:SE C k X a ma) (hb:SE C k X b mb):SE C k X (.BinOp a op b pos) (aE g ma mb):=fun c=>
 (S6 (ho c) (ha c) (hb c)).imp fun σ H Q h=>G4 h
theorem SD {op:CmpOp} (ho:OpS C k X (cz op) g) (ha:SE C k X a ma) (hb:SE C k X b mb) (hm:behindInMarks op b=false:=by first | exact Jq _ | rfl):SE C k X (.Compare a [op] [b] pos) (aE g ma mb):=fun c=>
 (N0 (ho c) (ha c) (hb c) hm).imp fun σ H Q h=>G4 h
noncomputable def mUn (g:PV->PH->Rs PV) (ma:Me):Me:=fun δ h=>(ma δ h).bind g
theorem UV {op:UnaryOp} {g:PV->PH->Rs PV} (ho:UnS C k X (unaryOp op) g) (ha:SE C k X a ma):SE C k X (.UnaryOp op a pos) (mUn g ma):=fun c=>
 (S7 (ho c) (ha c)).imp fun σ H Q h=>by
  obtain ⟨φ,δ,h,rh,re,p⟩:=h;refine ⟨φ,δ,h,rh,re,(post.bind p).imp ?_⟩;rintro v H1 ⟨φ1,x,h1,p1,t1,rh1,rv1,q1⟩;exact ⟨φ1,h1,x,rh1,rv1,q1⟩
end
noncomputable def aP (h:PH) (n:Nat):Option (List PV):=match h[n]? with
 | some (.lst xs)=>some xs
 | _=>none
theorem bP {φ:List Addr} {H:Hp} {h:PH} {n:Nat} {xs:List PV} (rh:RH C φ H h) (e:aP h n=some xs):∃ a vs,φ[n]?=some a/\SqL C.K H a vs/\RVs C φ H xs vs:=by
 unfold aP at e;cases q:h[n]? with
 | none=>rw [q] at e; cases e
 | some o=>
  rw [q] at e;obtain ⟨a,ha,ro⟩:=rh.get q;cases o with
  | lst ys=>cases e; obtain ⟨vs,q',r⟩:=ro; exact ⟨a,vs,ha,SqL.of q',r⟩
  | _=>cases e
noncomputable def dF (h:PH) (n:Nat):Option (List PV):=match h[n]? with
 | some (.lst xs)=>some xs
 | _=>none
theorem iE {h:PH} {n:Nat} {xs:List PV} (e:dF h n=some xs):h[n]?=some (.lst xs):=by
 unfold dF at e;cases q:h[n]? with
 | none=>rw [q] at e; cases e
 | some o=>
  rw [q] at e;cases o with
  | lst ys=>cases e; rfl
  | _=>cases e
noncomputable def cY (x:PV) (h:PH):Option (List PV):=match x with
 | .ref n=>aP h n
 | .fl xs=>some xs
 | _=>none
theorem dR {φ:List Addr} {H:Hp} {h:PH} {x:PV} {v:V} {xs:List PV} (rh:RH C φ H h) (rv:RV C φ H x v) (e:cY x h=some xs):∃ a vs,v=.ref a/\SqL C.K H a vs/\RVs C φ H xs vs:=by
 cases x with
 | ref n=>
  obtain ⟨a,rfl,ha⟩:=rv;obtain ⟨a2,vs,ha2,sa,ra⟩:=bP rh e;rw [ha] at ha2; cases ha2;exact ⟨a,vs,rfl,sa,ra⟩
 | fl ys=>
  cases e
  obtain ⟨a,vs,rfl,sa,ra⟩:=rv;exact ⟨a,vs,rfl,sa.sq,ra⟩
 | _=>cases e
noncomputable def Pi:List PV->Bool
 | []=>true
 | _ :: _=>false
noncomputable def JX:PV->PV->PH->Rs PV:=fun x y h=>match x,y with
 | .int i,.int j=>.ok (.int (i+j)) h
 | .str i,.str j=>if i.length+j.length<=au then .ok (.str (i++j)) h else .bad
 | .tup xs,.tup ys=>if Pi xs=false/\xs.length+ys.length<=au then .ok (.tup (xs++ys)) h else .bad
 | .ref a,.ref b=>match dF h a,dF h b with
  | some xs,some ys=>if xs.length+ys.length<=au then .ok (.ref h.length) (h++[.lst (xs++ys)]) else .bad
  | _,_=>.bad
 | _,_=>.bad
theorem post.ite {φ:List Addr} {H:Hp} {c:Prop} [Decidable c] {r:Rs PV} {Q:VK} (h:post C φ H (if c then r else .bad) Q):c/\post C φ H r Q:=by
 by_cases hc:c
 ·rw [if_pos hc] at h; exact ⟨hc,h⟩
 ·rw [if_neg hc] at h; exact h.elim
theorem post.lnew {φ:List Addr} {H:Hp} {h:PH} {xs:List PV} {vs:List V} {Q:VK} (q:post C φ H (.ok (.ref h.length) (h++[.lst xs])) Q) (rh:RH C φ H h) (r:RVs C φ H xs vs) {p:Addr} (hp:H p=none):Q (.ref p) (upd H p (.lst vs)):=
 q (φ++[p]) (.ref p) _ (cw _ _) (Kp.new hp) (rh.new hp ⟨vs,bJ,r.mono (cw _ _) (Kp.new hp)⟩) ⟨p,rfl,by rw [<- rh.len]; simp⟩
theorem post.tnew {φ:List Addr} {H:Hp} {h:PH} {xs:List PV} {vs:List V} {Q:VK} (q:post C φ H (.ok (.tup xs) h) Q) (rh:RH C φ H h) (r:RVs C φ H xs vs) {p:Addr} (hp:H p=none):Q (.ref p) (upd H p (.tup vs)):=
 q φ (.ref p) _ av (Kp.new hp) (rh.aside hp) ⟨p,vs,rfl,SqT.of bJ,r.mono av (Kp.new hp)⟩
theorem post.lset {φ:List Addr} {H:Hp} {h:PH} {n:Nat} {a:Addr} {p:PV} {v:V} {xs:List PV} {ws vs:List V} {Q:VK} (q:post C φ H (.ok p (h.set n (.lst xs))) Q) (rh:RH C φ H h) (e:φ[n]?=some a) (hl:H a=some (.lst ws)) (r:RVs C φ H xs vs) (rv:RV C φ H p v):Q v (upd H a (.lst vs)):=
 q φ v _ av (Kp.lst hl) (rh.write e (by rw [hl]; trivial) ⟨vs,bJ,r.mono av (Kp.lst hl)⟩) (rv.mono av (Kp.lst hl))
theorem JY {xs:List PV} {vs:List V} {φ:List Addr} {H:Hp} (r:RVs C φ H xs vs) (h:Pi xs=false):vs≠[]:=by
 cases xs with
 | nil=>cases h
 | cons x xs=>
  cases vs with
  | nil=>exact r.elim
  | cons=>intro z; cases z
theorem SF:OpS C k X (fe .Add) JX:=fun c=>(Nb C.K c.K).imp fun x y H Q h=>by
 obtain ⟨φ,h,p,q,rh,rx,ry,po⟩:=h;unfold JX at po;cases p with
 | int i=>
  cases q with
  | int j=>cases rx; cases ry; exact po.val rh rfl
  | _=>exact po.elim
 | str i=>
  cases q with
  | str j=>cases rx; cases ry; exact ⟨po.ite.1,po.ite.2.val rh rfl⟩
  | _=>exact po.elim
 | tup xs=>
  cases q with
  | tup ys=>
   obtain ⟨a,vs,rfl,sa,ra⟩:=rx;obtain ⟨b,us,rfl,sb,rb⟩:=ry;obtain ⟨⟨h1,h2⟩,po⟩:=po.ite;refine .inr ⟨a,b,vs,us,rfl,rfl,sa,sb,JY ra h1,by rw [<- ra.length,<- rb.length]; exact h2,fun z=>?_,fun z p hp=>po.tnew rh (ra.append rb) hp⟩;subst z;have e:ys=[]:=List.eq_nil_of_length_eq_zero rb.length;subst e;exact po.val rh ⟨a,vs,rfl,sa,by rw [lp]; exact ra⟩
  | _=>exact po.elim
 | ref n=>
  cases q with
  | ref m=>
   obtain ⟨a,rfl,ha⟩:=rx;obtain ⟨b,rfl,hb⟩:=ry;dsimp only at po;cases e1:dF h n with
   | none=>rw [e1] at po; exact po.elim
   | some xs=>
    cases e2:dF h m with
    | none=>rw [e1,e2] at po; exact po.elim
    | some ys=>
     rw [e1,e2] at po;obtain ⟨vs,h1,r1⟩:=rh.at' n a _ ha (iE e1);obtain ⟨us,h2,r2⟩:=rh.at' m b _ hb (iE e2);obtain ⟨hz,po⟩:=po.ite;exact .inl ⟨a,b,vs,us,rfl,rfl,h1,h2,by rw [<- r1.length,<- r2.length]; exact hz,fun p hp=>po.lnew rh (r1.append r2) hp⟩
  | _=>exact po.elim
 | _=>exact po.elim
noncomputable def vInt (P:Int->Int->Prop) [∀ i j,Decidable (P i j)] (f:Int->Int->Int):PV->PV->PH->Rs PV:=fun x y h=>match x,y with
 | .int i,.int j=>if P i j then .ok (.int (f i j)) h else .bad
 | _,_=>.bad
theorem G5 {f:Value->Value->Sem Value} {P:Int->Int->Prop} [∀ i j,Decidable (P i j)] {g:Int->Int->Int} (ho:OpR X f (yF P g)):OpS C k X f (vInt P g):=fun c=>ho.imp fun x y H Q h=>by
 obtain ⟨φ,h,p,q,rh,rx,ry,po⟩:=h;unfold vInt at po;cases p with
 | int i=>
  cases q with
  | int j=>cases rx; cases ry; exact ⟨po.ite.1,po.ite.2.val rh rfl⟩
  | _=>exact po.elim
 | _=>exact po.elim
noncomputable instance (i j:Int):Decidable (BL i j):=fu _
noncomputable instance (i j:Int):Decidable (Jp i j):=fu _
noncomputable instance (i j:Int):Decidable (GP i j):=fu _
noncomputable def Ee:PV->PV->PH->Rs PV:=fun x y h=>match x,y with
 | .int i,.int j=>.ok (.int (i - j)) h
 | _,_=>.bad
theorem G6:OpS C k X (fe .Sub) Ee:=fun c=>Nc.imp fun x y H Q h=>by
 obtain ⟨φ,h,p,q,rh,rx,ry,po⟩:=h;unfold Ee at po;cases p with
 | int i=>
  cases q with
  | int j=>cases rx; cases ry; exact po.val rh rfl
  | _=>exact po.elim
 | _=>exact po.elim
noncomputable abbrev Ay:=vInt BL fun i j=>i*j
noncomputable abbrev mB:=vInt Jp fun i j=>i / j
noncomputable abbrev gI:=vInt (fun _ j=>0 < j) fun i j=>i % j
noncomputable abbrev JZ:=vInt GP fun i j=>i ^ j.toNat
theorem G7:OpS C k X (fe .Mult) Ay:=G5 Nd
theorem jF:OpS C k X (fe .FloorDiv) mB:=G5 Nf
theorem dZ:OpS C k X (fe .Mod) gI:=G5 Ng
theorem K0:OpS C k X (fe .Pow) JZ:=G5 Nh
noncomputable def Nq:PV->PH->Rs PV:=fun x h=>match x with
 | .int i=>.ok (.int (-i)) h
 | _=>.bad
end L2
namespace L2
open PySem PySem.Spec PyProof.Rows
variable {C:MC} {k:Nat} {X:Cx}
noncomputable def C3 (f:Int->Int->Bool) (g:List Nat->List Nat->Bool):PV->PV->PH->Rs PV:=fun x y h=>match x,y with
 | .int i,.int j=>.ok (.bl (f i j)) h
 | .str i,.str j=>.ok (.bl (g i.cps.toList j.cps.toList)) h
 | _,_=>.bad
theorem K1 {f:Value->Value->Sem Value} {p:Int->Int->Bool} {g:List Nat->List Nat->Bool} (ho:OpR X f (BR p g)):OpS C k X f (C3 p g):=fun c=>ho.imp fun x y H Q h=>by
 obtain ⟨φ,h,p,q,rh,rx,ry,po⟩:=h;unfold C3 at po;cases p with
 | int i=>
  cases q with
  | int j=>cases rx; cases ry; exact po.val rh rfl
  | _=>exact po.elim
 | str i=>
  cases q with
  | str j=>cases rx; cases ry; exact po.val rh rfl
  | _=>exact po.elim
 | _=>exact po.elim
noncomputable abbrev vLt:=C3 (fun i j=>decide (i < j)) fun i j=>decide (i < j)
noncomputable abbrev vGt:=C3 (fun i j=>decide (j < i)) fun i j=>decide (j < i)
noncomputable abbrev vLe:=C3 (fun i j=>decide (i<=j)) fun i j=>!decide (j < i)
noncomputable abbrev vGe:=C3 (fun i j=>decide (j<=i)) fun i j=>!decide (i < j)
theorem UW:OpS C k X (cz .Lt) vLt:=K1 Qo
theorem Nr:OpS C k X (cz .Gt) vGt:=K1 Qp
theorem K2:OpS C k X (cz .LtE) vLe:=K1 Qq
mutual
noncomputable def PV.d:PV->Option D
 | .non=>some .non
 | .bl b=>some (.bl b)
 | .int i=>some (.int i)
 | .str x=>some (.str x)
 | .tup xs=>match PV.ds xs with
  | some ds=>some (.tup ds)
  | none=>none
 | .ref _=>none
 | .ty _=>none
 | .fl _=>none
noncomputable def PV.ds:List PV->Option (List D)
 | []=>some []
 | x :: xs=>match PV.d x,PV.ds xs with
  | some d,some ds=>some (d :: ds)
  | _,_=>none
end
section
variable {φ:List Addr} {H:Hp}
mutual
theorem RV.rep:∀ {x:PV} {d:D} {v:V},RV C φ H x v->x.d=some d->Rep C.K H d v
 | .non,_,_,h,e=>by cases e; exact h
 | .bl _,_,_,h,e=>by cases e; exact h
 | .int _,_,_,h,e=>by cases e; exact h
 | .str _,_,_,h,e=>by cases e; exact h
 | .tup xs,d,v,⟨a,vs,e1,q,r⟩,e=>by
  unfold PV.d at e;cases e2:PV.ds xs with
  | none=>rw [e2] at e; cases e
  | some ds=>
   rw [e2] at e;cases e
   exact ⟨a,vs,e1,q,RVs.reps r e2⟩
 | .ref _,_,_,_,e=>by cases e
 | .ty _,_,_,_,e=>by cases e
 | .fl _,_,_,_,e=>by cases e
theorem RVs.reps:∀ {xs:List PV} {ds:List D} {vs:List V},RVs C φ H xs vs->PV.ds xs=some ds->cG C.K H ds vs
 | [],_,[],_,e=>by cases e; trivial
 | x :: xs,_,v :: vs,⟨h,r⟩,e=>by
  unfold PV.ds at e;cases e1:PV.d x with
  | none=>rw [e1] at e; cases e
  | some d=>
   cases e2:PV.ds xs with
   | none=>rw [e1,e2] at e; cases e
   | some ds=>
    rw [e1,e2] at e;cases e
    exact ⟨RV.rep h e1,RVs.reps r e2⟩
 | [],_,_ :: _,h,_=>h.elim
 | _ :: _,_,[],h,_=>h.elim
end
end
noncomputable def iU (x y:PV) (h:PH):Option Bool:=match x.d,y.d with
 | some d,some e=>if d.depth<=40 then some (eqD d e) else none
 | _,_=>match cY x h,cY y h with
   | some xs,some ys=>match PV.ds xs,PV.ds ys with
    | some ds,some es=>if D.depths ds<=40 then some (eE ds es) else none
    | _,_=>none
   | _,_=>none
noncomputable def ofB (o:Option Bool) (h:PH):Rs PV:=match o with
 | some b=>.ok (.bl b) h
 | none=>.bad
noncomputable def vEq:PV->PV->PH->Rs PV:=fun x y h=>ofB (iU x y h) h
noncomputable def vNe:PV->PV->PH->Rs PV:=fun x y h=>ofB ((iU x y h).map not) h
theorem iV {φ:List Addr} {H:Hp} {h:PH} {p q:PV} {x y:V} {b:Bool} (rh:RH C φ H h) (rx:RV C φ H p x) (ry:RV C φ H q y) (e:iU p q h=some b):
  (∃ d e,Rep C.K H d x/\Rep C.K H e y/\d.depth<=40/\b=eqD d e)\/(∃ ds es,BV C.K H ds x/\BV C.K H es y/\D.depths ds<=40/\b=eE ds es):=by
 unfold iU at e;split at e
 ·rename_i d e' h1 h2;split at e
  ·rename_i hd;cases e
   exact .inl ⟨d,e',rx.rep h1,ry.rep h2,hd,rfl⟩
  ·cases e
 ·split at e
  ·rename_i xs ys h1 h2;split at e
   ·rename_i ds es h3 h4;split at e
    ·rename_i hd;cases e
     obtain ⟨a',vs,rfl,sa,ra⟩:=dR rh rx h1;obtain ⟨b'',us,rfl,sb,rb⟩:=dR rh ry h2;exact .inr ⟨ds,es,⟨a',vs,rfl,sa,ra.reps h3⟩,⟨b'',us,rfl,sb,rb.reps h4⟩,hd,rfl⟩
    ·cases e
   ·cases e
  ·cases e
theorem post.ofB {φ:List Addr} {H:Hp} {h:PH} {o:Option Bool} {Q:VK} (q:post C φ H (ofB o h) Q):∃ b,o=some b/\post C φ H (.ok (.bl b) h) Q:=by
 cases o with
 | none=>exact q.elim
 | some b=>exact ⟨b,rfl,q⟩
theorem tY:OpS C k X (cz .Eq) vEq:=fun c=>((Qt c.hu64 C.K c.K).or (Qv c.hu64 C.K c.K)).imp fun x y H Q h=>by
 obtain ⟨φ,h,p,q,rh,rx,ry,po⟩:=h;obtain ⟨b,e,po⟩:=po.ofB;rcases iV rh rx ry e with ⟨d,e',h1,h2,h3,rfl⟩ | ⟨d,e',h1,h2,h3,rfl⟩
 ·exact .inl ⟨d,e',h1,h2,h3,po.val rh rfl⟩
 ·exact .inr ⟨d,e',h1,h2,h3,po.val rh rfl⟩
theorem K3:OpS C k X (cz .NotEq) vNe:=fun c=>((Qu c.hu64 C.K c.K).or (Qw c.hu64 C.K c.K)).imp fun x y H Q h=>by
 obtain ⟨φ,h,p,q,rh,rx,ry,po⟩:=h;obtain ⟨b,e,po⟩:=po.ofB;cases e0:iU p q h with
 | none=>rw [e0] at e; cases e
 | some b'=>
  rw [e0] at e;cases e
  rcases iV rh rx ry e0 with ⟨d,e',h1,h2,h3,rfl⟩ | ⟨d,e',h1,h2,h3,rfl⟩
  ·exact .inl ⟨d,e',h1,h2,h3,po.val rh rfl⟩
  ·exact .inr ⟨d,e',h1,h2,h3,po.val rh rfl⟩
noncomputable def nO:PV->Option Key
 | .int i=>some (.inl i)
 | .str x=>some (.inr x)
 | _=>none
noncomputable def aV {κ:Type} [DecidableEq κ]:List (κ×PV)->κ->Option PV
 | [],_=>none
 | (a,p) :: r,b=>if a=b then some p else aV r b
noncomputable def C4 (h:PH) (n:Nat) (x:PV):Option (Option PV):=match h[n]? with
 | some (.dK kvs)=>match nO x with
  | some key=>some (aV kvs key)
  | none=>none
 | _=>none
noncomputable def C5 (x:PV) (ys:List PV):Option Bool:=match x.d,PV.ds ys with
 | some d,some ds=>if D.depths ds<=40 then some (ds.any fun e=>eqD e d) else none
 | _,_=>none
noncomputable def K4 (x y:PV) (h:PH):Option Bool:=match y with
 | .tup ys=>C5 x ys
 | .ref n=>match aP h n with
  | some ys=>C5 x ys
  | none=>(C4 h n x).map Option.isSome
 | .fl ys=>C5 x ys
 | _=>none
noncomputable def vIn:PV->PV->PH->Rs PV:=fun x y h=>ofB (K4 x y h) h
noncomputable def K5:PV->PV->PH->Rs PV:=fun x y h=>ofB ((K4 x y h).map not) h
theorem tZ {φ:List Addr} {H:Hp} {x:PV} {v:V} {key:Key} (r:RV C φ H x v) (e:nO x=some key):v=kV key:=by
 cases x <;> first | (cases e; exact r) | cases e
theorem pY {φ:List Addr} {H:Hp} {κ:Type} [DecidableEq κ] {kvs:List (κ×PV)} {ks:List (κ×V)} (r:RKv C φ H kvs ks) (a:κ):match aV kvs a,iB ks a with
  | some p,some v=>RV C φ H p v
  | none,none=>True
  | _,_=>False:=by
 unfold RKv at r
 induction r with
 | nil=>trivial
 | @cons p q ps qs h t ih=>
  obtain ⟨h1,h2⟩:=h;obtain ⟨pk,pv⟩:=p
  by_cases e:pk=a
  ·have e':q.1=a:=h1.symm.trans e;rw [nC e'];unfold aV;rw [if_pos e];exact h2
  ·have e':¬ q.1=a:=fun z=>e (h1.trans z);rw [nD e'];unfold aV;rw [if_neg e];exact ih
theorem mD {φ:List Addr} {H:Hp} {h:PH} {n:Nat} {a:Addr} {x:PV} {v:V} {o:Option PV} (rh:RH C φ H h) (ha:φ[n]?=some a) (rv:RV C φ H x v) (e:C4 h n x=some o):
  ∃ o',pN H a v o'/\o.isSome=o'.isSome/\∀ p,o=some p->∃ w,o'=some w/\RV C φ H p w:=by
 unfold C4 at e;split at e
 ·rename_i kvs hk;split at e
  ·rename_i key hkey;cases e
   obtain ⟨ks,hH,rk⟩:=rh.at' n a _ ha hk;have q:=pY rk key;rw [tZ rv hkey];refine ⟨iB ks key,pN.k hH,?_,fun p hp=>?_⟩
   ·cases e1:aV kvs key <;> cases e2:iB ks key <;> rw [e1,e2] at q <;> first | rfl | exact q.elim
   ·rw [hp] at q;cases e2:iB ks key with
    | none=>rw [e2] at q; exact q.elim
    | some w=>rw [e2] at q; exact ⟨w,rfl,q⟩
  ·cases e
 ·cases e
theorem Ef {φ:List Addr} {H:Hp} {h:PH} {p q:PV} {x y:V} {b:Bool} (rh:RH C φ H h) (rx:RV C φ H p x) (ry:RV C φ H q y) (e:K4 p q h=some b):
  (∃ d a ds vs,y=.ref a/\(SqL C.K H a vs\/SqT C.K H a vs)/\Rep C.K H d x/\cG C.K H ds vs/\D.depths ds<=40/\b=ds.any fun e=>eqD e d)\/∃ a o,y=.ref a/\pN H a x o/\b=o.isSome:=by
 have go:∀ {a:Addr} {vs:List V} {ys:List PV},(SqL C.K H a vs\/SqT C.K H a vs)->RVs C φ H ys vs->C5 p ys=some b->∃ d a' ds vs,V.ref a=.ref a'/\(SqL C.K H a' vs\/SqT C.K H a' vs)/\Rep C.K H d x/\cG C.K H ds vs/\D.depths ds<=40/\b=ds.any fun e=>eqD e d:=by
  intro a vs ys hs hr he;unfold C5 at he;split at he
  ·rename_i d ds h1 h2;split at he
   ·rename_i hd;cases he
    exact ⟨d,a,ds,vs,rfl,hs,rx.rep h1,hr.reps h2,hd,rfl⟩
   ·cases he
  ·cases he
 unfold K4 at e;split at e
 ·obtain ⟨a,vs,rfl,sa,ra⟩:=ry;exact .inl (go (.inr sa) ra e)
 ·rename_i n;obtain ⟨a,rfl,ha⟩:=ry;split at e
  ·rename_i ys hl;obtain ⟨a2,vs,ha2,sa,ra⟩:=bP rh hl;rw [ha] at ha2; cases ha2;exact .inl (go (.inl sa) ra e)
  ·cases e':C4 h n p with
   | none=>rw [e'] at e; cases e
   | some o=>
    rw [e'] at e;cases e
    obtain ⟨o',g,i,_⟩:=mD rh ha rx e';exact .inr ⟨a,o',rfl,g,i⟩
 ·obtain ⟨a,vs,rfl,sa,ra⟩:=ry;exact .inl (go (.inl sa.sq) ra e)
 ·cases e
theorem Nt:OpS C k X (cz .NotIn) K5:=fun c=>((He c.hu64 C.K c.K).or (Hb c.hu C.K c.K)).imp fun x y H Q h=>by
 obtain ⟨φ,h,p,q,rh,rx,ry,po⟩:=h;obtain ⟨b,e,po⟩:=po.ofB;cases e':K4 p q h with
 | none=>rw [e'] at e; cases e
 | some b'=>
  rw [e'] at e;cases e
  rcases Ef rh rx ry e' with ⟨d,a,ds,vs,rfl,h1,h2,h3,h4,rfl⟩ | ⟨a,o,rfl,g,rfl⟩
  ·exact .inl ⟨d,a,ds,vs,rfl,h1,h2,h3,h4,po.val rh rfl⟩
  ·exact .inr (.inr ⟨a,o,rfl,g,po.val rh rfl⟩)
noncomputable def jT:PV->Bool
 | .non=>true
 | _=>false
noncomputable def vIs:PV->PV->PH->Rs PV:=fun x y h=>match y with
 | .non=>.ok (.bl (jT x)) h
 | .bl b=>match x with
  | .bl a=>.ok (.bl (a == b)) h
  | _=>.bad
 | _=>.bad
noncomputable def uA:PV->PV->PH->Rs PV:=fun x y h=>match y with
 | .non=>.ok (.bl (!jT x)) h
 | .bl b=>match x with
  | .bl a=>.ok (.bl (!(a == b))) h
  | _=>.bad
 | _=>.bad
theorem RV.isNon {φ:List Addr} {H:Hp} {p:PV} {v:V} (r:RV C φ H p v):decide (v=.non)=jT p:=by
 cases p with
 | non=>cases r; rfl
 | tup xs=>obtain ⟨a,vs,rfl,_⟩:=r; rfl
 | ref n=>obtain ⟨a,rfl,_⟩:=r; rfl
 | fl xs=>obtain ⟨a,vs,rfl,_⟩:=r; rfl
 | _=>cases r; rfl
theorem SH:OpS C k X (cz .Is) vIs:=fun c=>(Q6.or (fun pins s σ H x y v u Q I rx ry (h:∃ a b,x=.bl a/\y=.bl b/\Q (.bl (a == b)) H)=>by
  obtain ⟨a,b,rfl,rfl,q⟩:=h;cases rx; cases ry;exact PyProof.Rows.is_bool ⟨.bl _,H,I,rfl,q⟩)).imp fun x y H Q h=>by
 obtain ⟨φ,h,p,q,rh,rx,ry,po⟩:=h;unfold vIs at po;cases q with
 | non=>
  cases ry
  refine .inl ⟨rfl,?_⟩;rw [rx.isNon];exact po.val rh rfl
 | bl b=>
  cases p with
  | bl a=>cases rx; cases ry; exact .inr ⟨a,b,rfl,rfl,po.val rh rfl⟩
  | _=>exact po.elim
 | _=>exact po.elim
theorem Nu:OpS C k X (cz .IsNot) uA:=fun c=>(MZ.or (fun pins s σ H x y v u Q I rx ry (h:∃ a b,x=.bl a/\y=.bl b/\Q (.bl (!(a == b))) H)=>by
  obtain ⟨a,b,rfl,rfl,q⟩:=h;cases rx; cases ry;exact PyProof.Rows.isnot_bool ⟨.bl _,H,I,rfl,q⟩)).imp fun x y H Q h=>by
 obtain ⟨φ,h,p,q,rh,rx,ry,po⟩:=h;unfold uA at po;cases q with
 | non=>
  cases ry
  refine .inl ⟨rfl,?_⟩;rw [rx.isNon];exact po.val rh rfl
 | bl b=>
  cases p with
  | bl a=>cases rx; cases ry; exact .inr ⟨a,b,rfl,rfl,po.val rh rfl⟩
  | _=>exact po.elim
 | _=>exact po.elim
noncomputable def tru (x:PV) (h:PH):Rs Bool:=match x with
 | .non=>.ok false h
 | .bl b=>.ok b h
 | .int i=>.ok (i != 0) h
 | .str y=>if y.length<=au then .ok ((y.length:Int) != 0) h else .bad
 | .tup xs=>.ok (!xs.isEmpty) h
 | .ref n=>match aP h n with
  | some xs=>.ok (!xs.isEmpty) h
  | none=>match h[n]? with
   | some (.dK kvs)=>.ok (!kvs.isEmpty) h
   | _=>.bad
 | .fl xs=>.ok (!xs.isEmpty) h
 | .ty _=>.bad
theorem RVs.isEmpty {φ:List Addr} {H:Hp} {xs:List PV} {vs:List V} (r:RVs C φ H xs vs):(!vs.isEmpty)=!xs.isEmpty:=by
 cases xs <;> cases vs <;> first | rfl | exact r.elim
theorem bY.ite {φ:List Addr} {H:Hp} {c:Prop} [Decidable c] {r:Rs Bool} {Q:Bool->Hp->Prop} (h:bY C φ H (if c then r else .bad) Q):c/\bY C φ H r Q:=by
 by_cases hc:c
 ·rw [if_pos hc] at h; exact ⟨hc,h⟩
 ·rw [if_neg hc] at h; exact h.elim
theorem bY.val {φ:List Addr} {H:Hp} {b:Bool} {h:PH} {Q:Bool->Hp->Prop} (q:bY C φ H (.ok b h) Q) (rh:RH C φ H h):Q b H:=q φ H av (Kp.refl H) rh
theorem Hm {φ:List Addr} {H:Hp} {h:PH} {p:PV} {v:V} {Q:Bool->Hp->Prop} (rh:RH C φ H h) (rv:RV C φ H p v) (po:bY C φ H (tru p h) Q):∃ b,DP C.K v H b/\Q b H:=by
 unfold tru at po;cases p with
 | non=>cases rv; exact ⟨_,rfl,po.val rh⟩
 | bl b=>cases rv; exact ⟨_,rfl,po.val rh⟩
 | int i=>cases rv; exact ⟨_,rfl,po.val rh⟩
 | str y=>cases rv; exact ⟨_,⟨po.ite.1,rfl⟩,po.ite.2.val rh⟩
 | tup xs=>
  obtain ⟨a,vs,rfl,sa,ra⟩:=rv;exact ⟨_,.inr (.inl ⟨vs,sa,rfl⟩),by rw [ra.isEmpty]; exact po.val rh⟩
 | ref n=>
  obtain ⟨a,rfl,ha⟩:=rv;dsimp only at po;cases e:aP h n with
  | some xs=>
   rw [e] at po;obtain ⟨a2,vs,ha2,sa,ra⟩:=bP rh e;rw [ha] at ha2; cases ha2;exact ⟨_,.inl ⟨vs,sa,rfl⟩,by rw [ra.isEmpty]; exact po.val rh⟩
  | none=>
   rw [e] at po;dsimp only at po;split at po
   ·rename_i kvs hk;obtain ⟨ks,hH,rk⟩:=rh.at' n a _ ha hk;refine ⟨_,.inr (.inr ⟨ks,hH,rfl⟩),?_⟩;have:(!ks.isEmpty)=!kvs.isEmpty:=by cases rk <;> rfl
    rw [this];exact po.val rh
   ·exact po.elim
 | fl xs=>
  obtain ⟨a,vs,rfl,sa,ra⟩:=rv;exact ⟨_,.inl ⟨vs,sa.sq,rfl⟩,by rw [ra.isEmpty]; exact po.val rh⟩
 | ty n=>exact po.elim
end L2
namespace L2
open PySem PySem.Spec PyProof.Rows
variable {C:MC} {k:Nat} {X:Cx}
noncomputable def bZ (m:Me):Ev->PH->Rs Bool:=fun δ h=>(m δ h).bind tru
theorem Eg {m:Me} {σ:St} {H:Hp} {Q:Bool->Hp->Prop} (h:rdB C (bZ m) σ H Q):rd C m σ H fun v H1=>∃ b,DP C.K v H1 b/\Q b H1:=by
 obtain ⟨φ,δ,h,rh,re,p⟩:=h;refine ⟨φ,δ,h,rh,re,(post.bindB p).imp ?_⟩;rintro v H1 ⟨φ1,x,h1,p1,t1,rh1,rv1,q1⟩;exact Hm rh1 rv1 q1
section
variable {a b e c':Expr} {ma mb mc m:Me} {g g':PV->PV->PH->Rs PV} {pos:Pos} {ta tb:Ev->PH->Rs Bool}
theorem SJ (h:SE C k X e m) (he:∀ whole,isTrue e X.env whole=(do let v <- whole; standAt e.pos; holding [v] (truthy v)):=by intro _; rfl):ST C k X e (bZ m):=fun c=>
 (Ju (h c) he).imp fun σ H Q q=>by rw [c.K]; exact Eg q
theorem cA {op:CmpOp} (ho:OpS C k X (cz op) g) (ha:SE C k X a ma) (hb:SE C k X b mb) (hm:behindInMarks op b=false:=by first | exact Jq _ | rfl):ST C k X (.Compare a [op] [b] pos) (bZ (aE g ma mb)):=fun c=>by
 intro pins s σ H Q I h;have h:=G4 (Eg h);refine wpAny_isTrue_Compare1 (thn (ha c pins s σ H _ I h) fun v s1 ⟨x,H1,I1,r1,q1⟩=>thn (hb c pins s1 σ H1 _ I1 q1) fun u s2 ⟨y,H2,I2,r2,q2⟩=>
  thn (ho c pins s2 σ H2 x y v u _ I2 r1 r2 q2) fun w s3 ⟨z,H3,I3,r3,q3⟩=>?_) hm
 rw [<- c.K] at q3;exact Jt pins s3 σ H3 z w Q I3 r3 q3
noncomputable def K6 (z:PV) (h:PH):Rs PV:=match z with
 | .bl b=>.ok (.bl b) h
 | _=>.bad
noncomputable def K7 (g g':PV->PV->PH->Rs PV) (ma mb mc:Me):Me:=fun δ h=>(ma δ h).bind fun x h1=>(mb δ h1).bind fun y h2=>(g x y h2).bind fun z h3=>match z with
 | .bl true=>(mc δ h3).bind fun w h4=>(g' y w h4).bind K6
 | .bl false=>.ok (.bl false) h3
 | _=>.bad
theorem QC {σ:St} {H:Hp} {Q:VK} (h:rd C (K7 g g' ma mb mc) σ H Q):Jr (r2 C g) (r2 C g') (rd C ma) (rd C mb) (rd C mc) σ H fun v H1=>∃ b,v=.bl b/\Q v H1:=by
 obtain ⟨φ,δ,h,rh,re,p⟩:=h;refine ⟨φ,δ,h,rh,re,(post.bind p).imp ?_⟩;rintro v H1 ⟨φ1,x,h1,p1,t1,rh1,rv1,q1⟩;refine ⟨φ1,δ,h1,rh1,re.mono p1 t1,(post.bind q1).imp ?_⟩;rintro u H2 ⟨φ2,y,h2,p2,t2,rh2,rv2,q2⟩;refine ⟨φ2,h2,x,y,rh2,rv1.mono p2 t2,rv2,(post.bind q2).imp ?_⟩;rintro w H3 ⟨φ3,z,h3,p3,t3,rh3,rv3,q3⟩;cases z with
 | bl b=>
  cases rv3
  refine ⟨b,rfl,?_⟩;cases b with
  | false=>exact DZ ⟨false,rfl,q3.val rh3 rfl⟩
  | true=>
   refine E1 ⟨φ3,δ,h3,rh3,re.mono ((p1.trans p2).trans p3) ((t1.trans t2).trans t3),(post.bind q3).imp ?_⟩;rintro w4 H4 ⟨φ4,z4,h4,p4,t4,rh4,rv4,q4⟩;refine ⟨φ4,h4,y,z4,rh4,rv2.mono (p3.trans p4) (t3.trans t4),rv4,(post.bind q4).imp ?_⟩;rintro w5 H5 ⟨φ5,z5,h5,p5,t5,rh5,rv5,q5⟩;cases z5 with
   | bl b=>cases rv5; exact ⟨b,rfl,q5.val rh5 rfl⟩
   | _=>exact q5.elim
 | _=>exact q3.elim
theorem SK {op op':CmpOp} (ho:OpS C k X (cz op) g) (ho':OpS C k X (cz op') g') (ha:SE C k X a ma) (hb:SE C k X b mb) (hc:SE C k X c' mc) (hm:lastMarks [op,op'] [b,c']=false:=by with_unfolding_all rfl):
  ST C k X (.Compare a [op,op'] [b,c'] pos) (bZ (K7 g g' ma mb mc)):=fun c=>by
 intro pins s σ H Q I h;have h':=QC (Eg h);refine f7 (Js (ho c) (ho' c) (ha c) (hb c) (hc c) hm pins s σ H (fun b H1=>∃ b',DP C.K (.bl b) H1 b'/\Q b' H1) I ?_) (fun b s1 ⟨H1,I1,b',(e:b'=b),q⟩=>⟨H1,I1,by rw [<- e]; exact q⟩) fun _ _ z=>z;obtain ⟨φ,δ,hh,rh,re,p⟩:=h';refine ⟨φ,δ,hh,rh,re,p.imp ?_⟩;rintro v H1 ⟨φ1,δ1,h1,rh1,re1,p1⟩;refine ⟨φ1,δ1,h1,rh1,re1,p1.imp ?_⟩;rintro u H2 ⟨φ2,h2,x,y,rh2,rx,ry,p2⟩;refine ⟨φ2,h2,x,y,rh2,rx,ry,p2.imp ?_⟩;rintro w H3 ⟨b,e,p3⟩;refine ⟨b,e,?_⟩;cases b with
 | false=>
  have:∃ b,V.bl false=V.bl b/\∃ b_1,DP C.K (V.bl false) H3 b_1/\Q b_1 H3:=by simpa using p3
  obtain ⟨b,e1,q⟩:=this;exact DZ ⟨false,rfl,q⟩
 | true=>
  have p3:rd C mc σ H3 fun w' H4=>r2 C g' u w' H4 fun v H1=>∃ b,v=V.bl b/\∃ b_1,DP C.K v H1 b_1/\Q b_1 H1:=by simpa using p3
  obtain ⟨φ3,δ3,h3,rh3,re3,p3⟩:=p3;refine E1 ⟨φ3,δ3,h3,rh3,re3,p3.imp ?_⟩;rintro w4 H4 ⟨φ4,h4,x4,y4,rh4,rx4,ry4,p4⟩;refine ⟨φ4,h4,x4,y4,rh4,rx4,ry4,p4.imp ?_⟩;rintro w5 H5 ⟨b,rfl,q⟩;exact ⟨b,rfl,q⟩
noncomputable def SL (t:Ev->PH->Rs Bool):Ev->PH->Rs Bool:=fun δ h=>(t δ h).bind fun b h1=>.ok (!b) h1
noncomputable def yS (ta tb:Ev->PH->Rs Bool):Ev->PH->Rs Bool:=fun δ h=>(ta δ h).bind fun b h1=>match b with
 | true=>tb δ h1
 | false=>.ok false h1
noncomputable def Nv (ta tb:Ev->PH->Rs Bool):Ev->PH->Rs Bool:=fun δ h=>(ta δ h).bind fun b h1=>match b with
 | true=>.ok true h1
 | false=>tb δ h1
theorem bY.imp {φ:List Addr} {H:Hp} {r:Rs Bool} {Q Q':Bool->Hp->Prop} (h:bY C φ H r Q) (i:∀ v H',Q v H'->Q' v H'):bY C φ H r Q':=by
 cases r with
 | ok a h'=>exact fun φ' H' p t rh=>i a H' (h φ' H' p t rh)
 | exc a h'=>exact h
 | bad=>exact h
noncomputable def SW (C:MC) (k:Nat) (X:Cx) (e:Expr) (m:Ev->PH->Rs Bool):Prop:=Cxt C k X->PW X e (rdB C m)
theorem SW.t (h:SW C k X e ta):ST C k X e ta:=fun c=>(h c).pt
theorem PW.imp {t t':TT} (h:PW X e t) (i:∀ σ H Q,t' σ H Q->t σ H Q):PW X e t':=fun w pins s σ H Q I q=>h w pins s σ H Q I (i σ H Q q)
theorem Eh (ha:ST C k X a ta):SW C k X (.BoolOp .And [a] pos) ta:=fun c=>MS (ha c)
theorem SM (ha:ST C k X a ta):SW C k X (.BoolOp .Or [a] pos) ta:=fun c=>PD (ha c)
theorem w_and {rest:List Expr} (ha:ST C k X a ta) (hb:SW C k X (.BoolOp .And (b :: rest) pos) tb):SW C k X (.BoolOp .And (a :: b :: rest) pos) (yS ta tb):=fun c=>PW.imp (PF (ha c) (hb c)) fun σ H Q q=>by
 obtain ⟨φ,δ,h,rh,re,p⟩:=q;refine ⟨φ,δ,h,rh,re,(bY.bindB p).imp ?_⟩;rintro b H1 ⟨φ1,h1,p1,t1,rh1,q1⟩;cases b with
 | true=>exact E1 ⟨φ1,δ,h1,rh1,re.mono p1 t1,q1⟩
 | false=>exact DZ (q1.val rh1)
theorem w_or {rest:List Expr} (ha:ST C k X a ta) (hb:SW C k X (.BoolOp .Or (b :: rest) pos) tb):SW C k X (.BoolOp .Or (a :: b :: rest) pos) (Nv ta tb):=fun c=>PW.imp (RX (ha c) (hb c)) fun σ H Q q=>by
 obtain ⟨φ,δ,h,rh,re,p⟩:=q;refine ⟨φ,δ,h,rh,re,(bY.bindB p).imp ?_⟩;rintro b H1 ⟨φ1,h1,p1,t1,rh1,q1⟩;cases b with
 | true=>exact E1 (q1.val rh1)
 | false=>exact DZ ⟨φ1,δ,h1,rh1,re.mono p1 t1,q1⟩
noncomputable def mIf (t:Ev->PH->Rs Bool) (ma mb:Me):Me:=fun δ h=>(t δ h).bind fun b h1=>match b with
 | true=>ma δ h1
 | false=>mb δ h1
theorem G8 (ht:ST C k X c' ta) (ha:SE C k X a ma) (hb:SE C k X b mb):SE C k X (.IfExp c' a b pos) (mIf ta ma mb):=fun c=>(Jj (ht c) (ha c) (hb c)).imp fun σ H Q q=>by
 obtain ⟨φ,δ,h,rh,re,p⟩:=q;refine ⟨φ,δ,h,rh,re,(bY.bind p).imp ?_⟩;rintro b H1 ⟨φ1,h1,p1,t1,rh1,q1⟩;cases b with
 | true=>exact E1 ⟨φ1,δ,h1,rh1,re.mono p1 t1,q1⟩
 | false=>exact DZ ⟨φ1,δ,h1,rh1,re.mono p1 t1,q1⟩
end
theorem RVs.atI {φ:List Addr} {H:Hp} {xs:List PV} {vs:List V} {i:Int} {x:PV} (r:RVs C φ H xs vs) (e:L2.atI xs i=some x):∃ v,L2.atI vs i=some v/\RV C φ H x v:=by
 unfold L2.atI at e ⊢;rw [<- r.length];cases q:ixN xs.length i with
 | none=>rw [q] at e; cases e
 | some j=>
  rw [q] at e;exact r.at e
noncomputable def ofO (o:Option PV) (h:PH):Rs PV:=match o with
 | some p=>.ok p h
 | none=>.bad
noncomputable def vIx:PV->PV->PH->Rs PV:=fun x y h=>match x with
 | .str z=>(match y with
  | .int i=>if z.length<=au then ofO ((atI z.cps.toList i).map fun c=>.str ⟨#[c]⟩) h else .bad
  | _=>.bad)
 | .tup xs=>(match y with
  | .int i=>ofO (atI xs i) h
  | _=>.bad)
 | .fl xs=>(match y with
  | .int i=>ofO (atI xs i) h
  | _=>.bad)
 | .ref n=>(match aP h n with
  | some xs=>(match y with
   | .int i=>ofO (atI xs i) h
   | _=>.bad)
  | none=>(match C4 h n y with
   | some o=>ofO o h
   | none=>.bad))
 | _=>.bad
theorem post.ofO {φ:List Addr} {H:Hp} {h:PH} {o:Option PV} {Q:VK} (q:post C φ H (ofO o h) Q):∃ p,o=some p/\post C φ H (.ok p h) Q:=by
 cases o with
 | none=>exact q.elim
 | some b=>exact ⟨b,rfl,q⟩
theorem SN {x y:V} {H:Hp} {Q:VK} (h:r2 C vIx x y H Q):Sv C.K x y H Q:=by
 obtain ⟨φ,h,p,q,rh,rx,ry,po⟩:=h;unfold vIx at po;cases p with
 | str z=>
  cases rx
  cases q with
  | int i=>
   cases ry
   obtain ⟨hz,po⟩:=po.ite;obtain ⟨p,e,po⟩:=po.ofO;cases e':atI z.cps.toList i with
   | none=>rw [e'] at e; cases e
   | some c=>rw [e'] at e; cases e; exact ⟨hz,c,e',po.val rh rfl⟩
  | _=>exact po.elim
 | tup xs=>
  obtain ⟨a,vs,rfl,sa,ra⟩:=rx;cases q with
  | int i=>
   cases ry
   obtain ⟨p,e,po⟩:=po.ofO;obtain ⟨v,hv,rv⟩:=ra.atI e;exact .inl ⟨vs,i,v,rfl,.inr sa,hv,po.val rh rv⟩
  | _=>exact po.elim
 | fl xs=>
  obtain ⟨a,vs,rfl,sa,ra⟩:=rx;cases q with
  | int i=>
   cases ry
   obtain ⟨p,e,po⟩:=po.ofO;obtain ⟨v,hv,rv⟩:=ra.atI e;exact .inl ⟨vs,i,v,rfl,.inl sa.sq,hv,po.val rh rv⟩
  | _=>exact po.elim
 | ref n=>
  obtain ⟨a,rfl,ha⟩:=rx;dsimp only at po;cases e:aP h n with
  | some xs=>
   rw [e] at po;obtain ⟨a2,vs,ha2,sa,ra⟩:=bP rh e;rw [ha] at ha2; cases ha2;cases q with
   | int i=>
    cases ry
    obtain ⟨p,e,po⟩:=po.ofO;obtain ⟨v,hv,rv⟩:=ra.atI e;exact .inl ⟨vs,i,v,rfl,.inl sa,hv,po.val rh rv⟩
   | _=>exact po.elim
  | none=>
   rw [e] at po;dsimp only at po;cases e':C4 h n q with
   | none=>rw [e'] at po; exact po.elim
   | some o=>
    rw [e'] at po;obtain ⟨p,eo,po⟩:=po.ofO;obtain ⟨o',g,_,hp⟩:=mD rh ha ry e';obtain ⟨w,rfl,rw'⟩:=hp p eo;exact .inr ⟨w,g,po.val rh rw'⟩
 | _=>exact po.elim
theorem lL {prog:Program} {w:World} {A:Around} {E:Value->Shared->Prop} {s:Shared} {t sl:Addr} {items:Array Value} {vl vu:Value} {lo hi:Option Int} {Q:Value->Shared->Prop} (ht:IsTup s.heap t items) (hs:s.heap.IsSliceOf sl vl vu .none) (pl:IsPart vl lo) (pu:IsPart vu hi)
  (hw:HT.sIx items.size 0 lo=0/\HT.sIx items.size items.size hi=items.size) (h:Q (.ref t) s):wpAny (model prog w) A (getItem (.ref t) (.ref sl)) Q E s:=by
 obtain ⟨os,hos,hcs,hds⟩:=id hs;have hTs:s.TypeIs (.ref sl) "slice" := ⟨os,hos,hcs⟩;unfold getItem
 try with_reducible refine da ?_
 first | refine aa (ag ?_) | skip
 refine aa (wpAny_sequenceKey ht.typeIs (by decide) ?_);refine aa (jo (name:=jk "__getitem__") ht.typeIs dn
  (ir dn ht.typeIs entry_tuple_getitem ?_ (args_tuple_getitem _ _)))
 show wpAny _ _ (kn (.ref t) >>= _) _ _ s
 refine aa (tupleItemsOf_ ht ?_);refine aa (lg hTs ?_);rw [if_pos (by decide)];refine aa (HT.sliceApplied_gen hs pl pu ?_);have hno:((((HT.sIx items.size 0 lo:Nat):Int) == 0 && (1:Int) == 1 && (HT.sIx items.size items.size hi - HT.sIx items.size 0 lo) == items.size)=true):=by
  rw [hw.1,hw.2]; simp
 show wpAny _ _ (if (((HT.sIx items.size 0 lo:Nat):Int) == 0 && (1:Int) == 1 && (HT.sIx items.size items.size hi - HT.sIx items.size 0 lo) == items.size)=true then _ else _) _ _ s
 rw [if_pos hno];refine aa ?_;unfold Builtin.Tuple.tupleIsExact;refine aa (lg ht.typeIs (ag ?_));rw [if_pos (by decide)];refine aa (jf ?_);exact ag ⟨_,rfl,ag h⟩
end L2
namespace L2
open PySem PySem.Spec PyProof.Rows
variable {C:MC} {k:Nat} {X:Cx}
noncomputable def iW {α:Type} (xs:List α) (lo hi:Option Int):List α:=(xs.drop (HT.sIx xs.length 0 lo)).take (HT.sIx xs.length xs.length hi - HT.sIx xs.length 0 lo)
theorem RVs.cut {φ:List Addr} {H:Hp} {xs:List PV} {vs:List V} (r:RVs C φ H xs vs) (lo hi:Option Int):RVs C φ H (iW xs lo hi) (BN vs lo hi):=by
 unfold iW BN;rw [<- r.length];exact (r.drop _).take _
noncomputable def vSl:PV->Option Int->Option Int->PH->Rs PV:=fun x lo hi h=>match x with
 | .str z=>if z.length<=au then .ok (.str (Txt.slice z lo hi)) h else .bad
 | .tup xs=>.ok (.tup (iW xs lo hi)) h
 | .ref n=>match aP h n with
  | some xs=>.ok (.ref h.length) (h++[.lst (iW xs lo hi)])
  | none=>.bad
 | .fl xs=>.ok (.ref h.length) (h++[.lst (iW xs lo hi)])
 | _=>.bad
noncomputable def SQ (K:af):V->Option Int->Option Int->Hp->VK->Prop:=fun x lo hi H Q=>∃ a xs,x=.ref a/\SqT K H a xs/\(HT.sIx xs.length 0 lo=0/\HT.sIx xs.length xs.length hi=xs.length)/\Q (.ref a) H
theorem K8:SlR X (SQ X.K):=by
 intro pins s σ H x v vl vu lo hi sl Q I rx hs pl pu h;obtain ⟨a,xs,rfl,hx,hw,q⟩:=h;cases rx
 obtain ⟨its,r,ht,hz⟩:=I.tuple hx;have hlen:its.toArray.size=xs.length:=by rw [ar]; exact r.length.symm
 refine ⟨"tuple",_,dn.lookup,ht.typeIs,?_⟩;exact lL ht hs pl pu (by rw [hlen]; exact hw) ⟨.ref a,H,I,rfl,q⟩
theorem SlR.imp {r r':V->Option Int->Option Int->Hp->VK->Prop} (h:SlR X r) (i:∀ x lo hi H Q,r' x lo hi H Q->r x lo hi H Q):SlR X r':=fun pins s σ H x v vl vu lo hi sl Q I rx hs pl pu q=>h pins s σ H x v vl vu lo hi sl Q I rx hs pl pu (i x lo hi H Q q)
noncomputable def r3 (C:MC) (g:PV->Option Int->Option Int->PH->Rs PV):V->Option Int->Option Int->Hp->VK->Prop:=fun x lo hi H Q=>∃ φ h p,RH C φ H h/\RV C φ H p x/\post C φ H (g p lo hi h) Q
theorem QD (hK:X.K=C.K):SlR X (r3 C vSl):=by
 have e:SlR X (fun x lo hi H Q=>Sr x lo hi H Q\/Sf C.K x lo hi H Q\/Si C.K x lo hi H Q\/SQ C.K x lo hi H Q):=by rw [<- hK]; exact Qn.or (Qc.or (N6.or K8))
 refine e.imp fun x lo hi H Q h=>?_;obtain ⟨φ,h,p,rh,rv,po⟩:=h;unfold vSl at po;cases p with
 | str z=>cases rv; exact .inl ⟨z,rfl,po.ite.1,po.ite.2.val rh rfl⟩
 | tup xs=>
  obtain ⟨a,vs,rfl,sa,ra⟩:=rv
  by_cases hw:HT.sIx vs.length 0 lo=0/\HT.sIx vs.length vs.length hi=vs.length
  ·refine .inr (.inr (.inr ⟨a,vs,rfl,sa,hw,po.val rh ⟨a,vs,rfl,sa,?_⟩⟩));have e:iW xs lo hi=xs:=by
    unfold iW;rw [ra.length,hw.1,hw.2,List.drop_zero,Nat.sub_zero,<- ra.length,jw]
   rw [e];exact ra
  ·exact .inr (.inl ⟨a,vs,rfl,sa,hw,fun p hp=>po.tnew rh (ra.cut lo hi) hp⟩)
 | ref n=>
  obtain ⟨a,rfl,ha⟩:=rv;dsimp only at po;cases e:aP h n with
  | none=>rw [e] at po; exact po.elim
  | some xs=>
   rw [e] at po;obtain ⟨a2,vs,ha2,sa,ra⟩:=bP rh e;rw [ha] at ha2; cases ha2;exact .inr (.inr (.inl ⟨a,vs,rfl,sa,fun p hp=>po.lnew rh (ra.cut lo hi) hp⟩))
 | fl xs=>
  obtain ⟨a,vs,rfl,sa,ra⟩:=rv;exact .inr (.inr (.inl ⟨a,vs,rfl,sa.sq,fun p hp=>po.lnew rh (ra.cut lo hi) hp⟩))
 | _=>exact po.elim
noncomputable abbrev Mo:=Ev->PH->Rs (Option Int)
noncomputable def rQ (C:MC) (φ:List Addr) (H:Hp) (r:Rs (Option Int)) (Q:Option Int->Hp->Prop):Prop:=match r with
 | .ok b h=>∀ φ' H',φ<+:φ'->Kp H H'->RH C φ' H' h->Q b H'
 | .exc x h=>∀ φ' H',φ<+:φ'->Kp H H'->RH C φ' H' h->C.ex φ' H' x
 | .bad=>False
noncomputable def rdO (C:MC) (m:Mo):TO:=fun σ H Q=>∃ φ δ h,RH C φ H h/\RE C φ H δ σ/\rQ C φ H (m δ h) Q
noncomputable def SO (C:MC) (k:Nat) (X:Cx) (e:Option Expr) (m:Mo):Prop:=Cxt C k X->PO X e (rdO C m)
noncomputable def C6:Mo:=fun _ h=>.ok none h
noncomputable def mP (m:Me):Mo:=fun δ h=>(m δ h).bind fun x h1=>match x with
 | .int i=>.ok (some i) h1
 | _=>.bad
theorem Az:SO C k X none C6:=fun c pins s σ H Q I h=>by
 obtain ⟨φ,δ,h,rh,re,p⟩:=h;exact N3 pins s σ H Q I (p φ H av (Kp.refl H) rh)
theorem pZ {e:Expr} {m:Me} (h:SE C k X e m):SO C k X (some e) (mP m):=fun c pins s σ H Q I q=>by
 refine JI (h c) pins s σ H Q I ?_;obtain ⟨φ,δ,h,rh,re,p⟩:=q;refine ⟨φ,δ,h,rh,re,?_⟩;unfold mP at p;cases e':m δ h with
 | ok x h1=>
  rw [e'] at p;intro φ' v H' p' t' rh' rv';cases x with
  | int i=>cases rv'; exact p φ' H' p' t' rh'
  | _=>exact p.elim
 | exc x h1=>rw [e'] at p; exact p
 | bad=>rw [e'] at p; exact p
noncomputable def mSl (me:Me) (ml mh:Mo):Me:=fun δ h=>(me δ h).bind fun x h1=>(ml δ h1).bind fun l h2=>(mh δ h2).bind fun u h3=>vSl x l u h3
theorem rQ.bind {φ:List Addr} {H:Hp} {r:Rs (Option Int)} {f:Option Int->PH->Rs PV} {Q:VK} (h:post C φ H (r.bind f) Q):rQ C φ H r fun b H1=>∃ φ1 h1,φ<+:φ1/\Kp H H1/\RH C φ1 H1 h1/\post C φ1 H1 (f b h1) Q:=by
 cases r with
 | ok a h'=>exact fun φ' H' p t rh=>⟨φ',h',p,t,rh,post.weak p t h⟩
 | exc a h'=>exact h
 | bad=>exact h
theorem rQ.imp {φ:List Addr} {H:Hp} {r:Rs (Option Int)} {Q Q':Option Int->Hp->Prop} (h:rQ C φ H r Q) (i:∀ v H',Q v H'->Q' v H'):rQ C φ H r Q':=by
 cases r with
 | ok a h'=>exact fun φ' H' p t rh=>i a H' (h φ' H' p t rh)
 | exc a h'=>exact h
 | bad=>exact h
theorem K9 {e:Expr} {lo hi:Option Expr} {me:Me} {ml mh:Mo} {p2 pos:Pos} (he:SE C k X e me) (hl:SO C k X lo ml) (hh:SO C k X hi mh):SE C k X (.Subscript e (.Slice lo hi none p2) pos) (mSl me ml mh):=fun c=>
 (Jz (QD c.K) (he c) (hl c) (hh c)).imp fun σ H Q h=>by
  obtain ⟨φ,δ,h,rh,re,p⟩:=h;refine ⟨φ,δ,h,rh,re,(post.bind p).imp ?_⟩;rintro v H1 ⟨φ1,x,h1,p1,t1,rh1,rv1,q1⟩;refine ⟨φ1,δ,h1,rh1,re.mono p1 t1,(rQ.bind q1).imp ?_⟩;rintro l H2 ⟨φ2,h2,p2,t2,rh2,q2⟩;refine ⟨φ2,δ,h2,rh2,re.mono (p1.trans p2) (t1.trans t2),(rQ.bind q2).imp ?_⟩;rintro u H3 ⟨φ3,h3,p3,t3,rh3,q3⟩;exact ⟨φ3,h3,x,rh3,rv1.mono (p2.trans p3) (t2.trans t3),q3⟩
noncomputable abbrev Ma:=Ev->PH->Rs (List PV)
noncomputable def aJ:Ma:=fun _ h=>.ok [] h
noncomputable def aC (m:Me) (ms:Ma):Ma:=fun δ h=>(m δ h).bind fun x h1=>(ms δ h1).bind fun xs h2=>.ok (x :: xs) h2
theorem PA.imp {es:List Expr} {t t':TA} (h:PA X es t) (i:∀ σ H Q,t' σ H Q->t σ H Q):PA X es t':=fun pos pins s σ H Q I q=>h pos pins s σ H Q I (i σ H Q q)
theorem aI:SA C k X [] aJ:=fun c=>Ad.imp fun σ H Q h=>by
 obtain ⟨φ,δ,h,rh,re,p⟩:=h;exact p φ [] H av (Kp.refl H) rh trivial
theorem postA.imp {φ:List Addr} {H:Hp} {r:Rs (List PV)} {Q Q':List V->Hp->Prop} (h:postA C φ H r Q) (i:∀ v H',Q v H'->Q' v H'):postA C φ H r Q':=by
 cases r with
 | ok a h'=>exact fun φ' v H' p t rh rv=>i v H' (h φ' v H' p t rh rv)
 | exc a h'=>exact h
 | bad=>exact h
theorem aD {e:Expr} {es:List Expr} {m:Me} {ms:Ma} (he:SE C k X e m) (hs:SA C k X es ms) (hh:bz (e :: es) X.env=(false,eval e X.env) :: bz es X.env:=by rfl):SA C k X (e :: es) (aC m ms):=fun c=>(sS (he c) (hs c) hh).imp fun σ H Q h=>by
 obtain ⟨φ,δ,h,rh,re,p⟩:=h;refine ⟨φ,δ,h,rh,re,(post.bindA p).imp ?_⟩;rintro v H1 ⟨φ1,x,h1,p1,t1,rh1,rv1,q1⟩;refine ⟨φ1,δ,h1,rh1,re.mono p1 t1,(postA.bindA q1).imp ?_⟩;rintro vs H2 ⟨φ2,xs,h2,p2,t2,rh2,rv2,q2⟩;exact q2 φ2 (v :: vs) H2 av (Kp.refl H2) rh2 ⟨rv1.mono p2 t2,rv2⟩
noncomputable def fE (ms:Ma):Me:=fun δ h=>(ms δ h).bind fun xs h1=>if xs.length<=au then .ok (.tup xs) h1 else .bad
noncomputable def AA (ms:Ma):Me:=fun δ h=>(ms δ h).bind fun xs h1=>if xs.length<=au then .ok (.ref h1.length) (h1++[.lst xs]) else .bad
theorem gO {es:List Expr} {ms:Ma} {x1} {pos:Pos} (hs:SA C k X es ms):SE C k X (.Tuple es x1 pos) (fE ms):=fun c=>(Q8 (hs c)).imp fun σ H Q h=>by
 obtain ⟨φ,δ,h,rh,re,p⟩:=h;refine ⟨φ,δ,h,rh,re,(postA.bind p).imp ?_⟩;rintro vs H1 ⟨φ1,xs,h1,p1,t1,rh1,rv1,q1⟩;exact ⟨by rw [<- rv1.length]; exact q1.ite.1,fun p hp=>q1.ite.2.tnew rh1 rv1 hp⟩
theorem uB {es:List Expr} {ms:Ma} {pos:Pos} (hs:SA C k X es ms):SE C k X (.List es pos) (AA ms):=fun c=>(Q9 (hs c)).imp fun σ H Q h=>by
 obtain ⟨φ,δ,h,rh,re,p⟩:=h;refine ⟨φ,δ,h,rh,re,(postA.bind p).imp ?_⟩;rintro vs H1 ⟨φ1,xs,h1,p1,t1,rh1,rv1,q1⟩;exact ⟨by rw [<- rv1.length]; exact q1.ite.1,fun p hp=>q1.ite.2.lnew rh1 rv1 hp⟩
noncomputable def uC:Me:=fun _ h=>.ok (.ref h.length) (h++[.dK []])
theorem AB {pos:Pos}:SE C k X (.Dict [] [] pos) uC:=fun c=>JE.imp fun σ H Q h=>by
 obtain ⟨φ,δ,h,rh,re,p⟩:=h;intro a ha;exact p (φ++[a]) (.ref a) _ (cw _ _) (Kp.new ha) (rh.new ha ⟨[],bJ,.nil⟩) ⟨a,rfl,by rw [<- rh.len]; simp⟩
noncomputable def mCB (g:List PV->PH->Rs PV) (ms:Ma):Me:=fun δ h=>(ms δ h).bind g
theorem Pj {g:List PV->PH->Rs PV} {ms:Ma} {σ:St} {H:Hp} {Q:VK} (h:rd C (mCB g ms) σ H Q):tCB (rL C g) (rdA C ms) σ H Q:=by
 obtain ⟨φ,δ,h,rh,re,p⟩:=h;refine ⟨φ,δ,h,rh,re,(postA.bind p).imp ?_⟩;rintro vs H1 ⟨φ1,xs,h1,p1,t1,rh1,rv1,q1⟩;exact ⟨φ1,h1,xs,rh1,rv1,q1⟩
section
variable {x:Str} {p pos:Pos} {e:Expr} {es:List Expr} {ms:Ma} {id T:String} {g:List PV->PH->Rs PV}
theorem bK (hc:gM C k X (.builtin id) g) (hv:k9 x=some (.builtin id)) (ha:SA C k X (e :: es) ms) (hb:x∈C.bs:=by decide) (hg:Gl X x:=by rfl) (hn:x≠"__name__" := by decide) (hdb:(x == ("__debug__" : Str))=false:=by decide)
  (he:bz (e :: es) X.env=(false,eval e X.env) :: bz es X.env:=by rfl) (hpl:(backTo pos (bz es X.env)).any (·.1)=false:=by rfl):SE C k X (.Call (.Name x p) (e :: es) [] pos) (mCB g ms):=fun c=>
 (Jx (hc c) hg (c.bn x hb) hv (ha c) hn hdb he hpl).imp fun σ H Q h=>Pj h
theorem nQ (hc:gM C k X (.type T) g) (hv:k9 x=some (.type T)) (ha:SA C k X (e :: es) ms) (hb:x∈C.bs:=by decide) (hg:Gl X x:=by rfl) (hn:x≠"__name__" := by decide) (hdb:(x == ("__debug__" : Str))=false:=by decide)
  (he:bz (e :: es) X.env=(false,eval e X.env) :: bz es X.env:=by rfl) (hpl:(backTo pos (bz es X.env)).any (·.1)=false:=by rfl):SE C k X (.Call (.Name x p) (e :: es) [] pos) (mCB g ms):=fun c=>
 (GU (hc c) hg (c.bn x hb) hv (ha c) hn hdb he hpl).imp fun σ H Q h=>Pj h
noncomputable def spM (C:MC) (n:Nat) (f:Fn):Sp:=fun vs H Q _=>∃ φ h ps,RH C φ H h/\RVs C φ H ps vs/\ps.length=n/\post C φ H (f ps h) Q
noncomputable def bL (n:Nat) (f:Fn) (ms:Ma):Me:=fun δ h=>(ms δ h).bind fun ps h1=>if ps.length=n then f ps h1 else .bad
theorem s_call {st:Stmt} {a:Addr} {fd:c5} {ps:List Str} {j n:Nat} {f:Fn} (D:Def C.K X.mg x st a fd ps) (G:aY X.prog X.w C.K X.mg X.base CX0 j a fd ps (spM C n f)) (ha:SA C k X (e :: es) ms) (hj:j<=k:=by decide)
  (hg:Gl X x:=by rfl) (hdb:(x == ("__debug__" : Str))=false:=by decide) (he:bz (e :: es) X.env=(false,eval e X.env) :: bz es X.env:=by rfl) (hpl:(backTo pos (bz es X.env)).any (·.1)=false:=by rfl):
  SE C k X (.Call (.Name x p) (e :: es) [] pos) (bL n f ms):=fun c=>by
 have e1:=c.K;have D':Def X.K X.mg x st a fd ps:=by rw [e1]; exact D
 have G':aY X.prog X.w X.K X.mg X.base CX0 j a fd ps (spM C n f):=by rw [e1]; exact G
 refine (SB D' G' (c.room.mono hj) (ha c) hg hdb he hpl).imp fun σ H Q h=>?_;obtain ⟨φ,δ,h,rh,re,p⟩:=h;refine ⟨φ,δ,h,rh,re,(postA.bind p).imp ?_⟩;rintro vs H1 ⟨φ1,xs,h1,p1,t1,rh1,rv1,q1⟩;refine ⟨φ1,h1,xs,rh1,by rw [lp]; exact rv1,q1.ite.1,q1.ite.2⟩
end
noncomputable def dM:List PV->PH->Rs PV:=fun xs h=>match xs with
 | [.str y]=>if y.length<=au then .ok (.int y.length) h else .bad
 | [.tup ys]=>.ok (.int ys.length) h
 | [.fl ys]=>.ok (.int ys.length) h
 | [.ref n]=>match aP h n with
  | some ys=>.ok (.int ys.length) h
  | none=>match h[n]? with
   | some (.dK kvs)=>.ok (.int kvs.length) h
   | _=>.bad
 | _=>.bad
theorem RVs.one {φ:List Addr} {H:Hp} {x:PV} {vs:List V} (r:RVs C φ H [x] vs):∃ v,vs=[v]/\RV C φ H x v:=by
 match vs,r with
 | [v],⟨h,_⟩=>exact ⟨v,rfl,h⟩
 | [],h=>exact h.elim
 | _ :: _ :: _,⟨_,h⟩=>exact h.elim
theorem RVs.two {φ:List Addr} {H:Hp} {x y:PV} {vs:List V} (r:RVs C φ H [x,y] vs):∃ v w,vs=[v,w]/\RV C φ H x v/\RV C φ H y w:=by
 match vs,r with
 | [v,w],⟨h,h',_⟩=>exact ⟨v,w,rfl,h,h'⟩
 | [],h=>exact h.elim
 | [_],⟨_,h⟩=>exact h.elim
 | _ :: _ :: _ :: _,⟨_,_,h⟩=>exact h.elim
theorem fV:gM C k X (.builtin "len") dM:=fun c=>(Hc C.K c.K).imp fun vs H Q h=>by
 obtain ⟨φ,h,ps,rh,rv,po⟩:=h;unfold dM at po;split at po
 ·obtain ⟨v,rfl,rx⟩:=rv.one;cases rx
  exact ⟨po.ite.1,po.ite.2.val rh rfl⟩
 ·obtain ⟨v,rfl,rx⟩:=rv.one;obtain ⟨a,vs,rfl,sa,ra⟩:=rx;exact .inl ⟨vs,.inr sa,by rw [<- ra.length]; exact po.val rh rfl⟩
 ·obtain ⟨v,rfl,rx⟩:=rv.one;obtain ⟨a,vs,rfl,sa,ra⟩:=rx;exact .inl ⟨vs,.inl sa.sq,by rw [<- ra.length]; exact po.val rh rfl⟩
 ·rename_i n;obtain ⟨v,rfl,rx⟩:=rv.one;obtain ⟨a,rfl,ha⟩:=rx;split at po
  ·rename_i ys e;obtain ⟨a2,vs,ha2,sa,ra⟩:=bP rh e;rw [ha] at ha2; cases ha2;exact .inl ⟨vs,.inl sa,by rw [<- ra.length]; exact po.val rh rfl⟩
  ·split at po
   ·rename_i kvs hk;obtain ⟨ks,hH,rk⟩:=rh.at' n a _ ha hk;refine .inr ⟨ks,hH,?_⟩;have:ks.length=kvs.length:=(eu rk).symm;rw [this];exact po.val rh rfl
   ·exact po.elim
 ·exact po.elim
noncomputable def qA:List PV->PH->Rs PV:=fun xs h=>match xs with
 | [.tup ys]=>.ok (.tup ys) h
 | [.fl ys]=>.ok (.tup ys) h
 | [.ref n]=>match aP h n with
  | some ys=>.ok (.tup ys) h
  | none=>.bad
 | _=>.bad
theorem G9:gM C k X (.type "tuple") qA:=fun c=>(BS C.K c.K).imp fun vs H Q h=>by
 obtain ⟨φ,h,ps,rh,rv,po⟩:=h;unfold qA at po;split at po
 ·obtain ⟨v,rfl,rx⟩:=rv.one;obtain ⟨a,vs,rfl,sa,ra⟩:=rx;exact ⟨a,vs,rfl,.inr ⟨sa,po.val rh ⟨a,vs,rfl,sa,ra⟩⟩⟩
 ·obtain ⟨v,rfl,rx⟩:=rv.one;obtain ⟨a,vs,rfl,sa,ra⟩:=rx;exact ⟨a,vs,rfl,.inl ⟨sa.sq,fun p hp=>po.tnew rh ra hp⟩⟩
 ·rename_i n;obtain ⟨v,rfl,rx⟩:=rv.one;obtain ⟨a,rfl,ha⟩:=rx;split at po
  ·rename_i ys e;obtain ⟨a2,vs,ha2,sa,ra⟩:=bP rh e;rw [ha] at ha2; cases ha2;exact ⟨a,vs,rfl,.inl ⟨sa,fun p hp=>po.tnew rh ra hp⟩⟩
  ·exact po.elim
 ·exact po.elim
noncomputable def yT:List PV->PH->Rs PV:=fun xs h=>match xs with
 | [.tup ys]=>.ok (.ref h.length) (h++[.lst ys])
 | [.fl ys]=>.ok (.ref h.length) (h++[.lst ys])
 | [.ref n]=>match aP h n with
  | some ys=>.ok (.ref h.length) (h++[.lst ys])
  | none=>.bad
 | _=>.bad
theorem QE:gM C k X (.type "list") yT:=fun c=>(E4 C.K c.K).imp fun vs H Q h=>by
 obtain ⟨φ,h,ps,rh,rv,po⟩:=h;unfold yT at po;split at po
 ·obtain ⟨v,rfl,rx⟩:=rv.one;obtain ⟨a,vs,rfl,sa,ra⟩:=rx;exact ⟨a,vs,rfl,.inr sa,fun p hp=>po.lnew rh ra hp⟩
 ·obtain ⟨v,rfl,rx⟩:=rv.one;obtain ⟨a,vs,rfl,sa,ra⟩:=rx;exact ⟨a,vs,rfl,.inl sa.sq,fun p hp=>po.lnew rh ra hp⟩
 ·rename_i n;obtain ⟨v,rfl,rx⟩:=rv.one;obtain ⟨a,rfl,ha⟩:=rx;split at po
  ·rename_i ys e;obtain ⟨a2,vs,ha2,sa,ra⟩:=bP rh e;rw [ha] at ha2; cases ha2;exact ⟨a,vs,rfl,.inl sa,fun p hp=>po.lnew rh ra hp⟩
  ·exact po.elim
 ·exact po.elim
noncomputable def Nw:List PV->PH->Rs PV:=fun xs h=>match xs with
 | [.int i,.int j]=>.ok (.int (if j > i then j else i)) h
 | _=>.bad
theorem SR:gM C k X (.builtin "max") Nw:=fun c=>(Hd c.calm).imp fun vs H Q h=>by
 obtain ⟨φ,h,ps,rh,rv,po⟩:=h;unfold Nw at po;split at po
 ·obtain ⟨v,w,rfl,rx,ry⟩:=rv.two;cases rx; cases ry;exact po.val rh rfl
 ·exact po.elim
end L2
namespace L2
open PySem PySem.Spec PyProof.Rows
variable {C:MC} {k:Nat} {X:Cx}
noncomputable def Rs.fl {α:Type} (r:Rs α) (f:α->PH->Fl):Fl:=match r with
 | .ok a h=>f a h
 | .exc x h=>.exc x h
 | .bad=>.bad
@[simp] theorem Rs.fl_ok {α:Type} (a:α) (h:PH) (f:α->PH->Fl):(Rs.ok a h).fl f=f a h:=(rfl)
@[simp] theorem Rs.fl_exc {α:Type} (x:PX) (h:PH) (f:α->PH->Fl):(Rs.exc x h:Rs α).fl f=.exc x h:=(rfl)
@[simp] theorem Rs.fl_bad {α:Type} (f:α->PH->Fl):(Rs.bad:Rs α).fl f=.bad:=(rfl)
section
variable {φ:List Addr} {H:Hp}
theorem post.fl {r:Rs PV} {f:PV->PH->Fl} {D:Ends} (h:cE C φ H (r.fl f) D):post C φ H r fun v H1=>∃ φ1 p h1,φ<+:φ1/\Kp H H1/\RH C φ1 H1 h1/\RV C φ1 H1 p v/\cE C φ1 H1 (f p h1) D:=by
 cases r with
 | ok a h'=>exact fun φ' v H' p t rh rv=>⟨φ',a,h',p,t,rh,rv,cE.weak p t h⟩
 | exc a h'=>exact h
 | bad=>exact h
theorem bY.fl {r:Rs Bool} {f:Bool->PH->Fl} {D:Ends} (h:cE C φ H (r.fl f) D):bY C φ H r fun b H1=>∃ φ1 h1,φ<+:φ1/\Kp H H1/\RH C φ1 H1 h1/\cE C φ1 H1 (f b h1) D:=by
 cases r with
 | ok a h'=>exact fun φ' H' p t rh=>⟨φ',h',p,t,rh,cE.weak p t h⟩
 | exc a h'=>exact h
 | bad=>exact h
theorem cE.nx {δ:Ev} {h:PH} {D:Ends} {σ:St} (q:cE C φ H (.nx δ h) D) (rh:RH C φ H h) (re:RE C φ H δ σ):D.nx σ H:=q φ σ H av (Kp.refl H) rh re
theorem cE.rt {p:PV} {h:PH} {D:Ends} {v:V} (q:cE C φ H (.rt p h) D) (rh:RH C φ H h) (rv:RV C φ H p v):D.rt v H:=q φ v H av (Kp.refl H) rh rv
end
noncomputable abbrev Mg:=PV->Ev->Option Ev
noncomputable abbrev Mgs:=List PV->Ev->Option Ev
noncomputable def rdG (C:MC) (t:Mg):TG:=fun v σ H Q=>∃ φ δ h p δ',RH C φ H h/\RE C φ H δ σ/\RV C φ H p v/\t p δ=some δ'/\∀ σ',RE C φ H δ' σ'->Q σ' H
noncomputable def UX (C:MC) (t:Mgs):TGs:=fun vs σ H Q=>∃ φ δ h ps δ',RH C φ H h/\RE C φ H δ σ/\RVs C φ H ps vs/\t ps δ=some δ'/\∀ σ',RE C φ H δ' σ'->Q σ' H
noncomputable def SG (C:MC) (k:Nat) (X:Cx) (e:Expr) (t:Mg):Prop:=Cxt C k X->PG X e (rdG C t)
noncomputable def SGs (C:MC) (k:Nat) (X:Cx) (es:List Expr) (t:Mgs):Prop:=Cxt C k X->PGs X es (UX C t)
noncomputable def gN (i:Nat):Mg:=fun p δ=>some (δ.set i (some p))
noncomputable def gNl:Mgs:=fun ps δ=>match ps with
 | []=>some δ
 | _ :: _=>none
noncomputable def gCn (t:Mg) (u:Mgs):Mgs:=fun ps δ=>match ps with
 | p :: r=>(t p δ).bind (u r)
 | []=>none
noncomputable def gTp (n:Nat) (u:Mgs):Mg:=fun p δ=>match p with
 | .tup ps=>if ps.length=n then u ps δ else none
 | _=>none
theorem PG.imp {e:Expr} {t t':TG} (h:PG X e t) (i:∀ v σ H Q,t' v σ H Q->t v σ H Q):PG X e t':=fun pins s σ H v u Q I r q=>h pins s σ H v u Q I r (i v σ H Q q)
theorem PGs.imp {es:List Expr} {t t':TGs} (h:PGs X es t) (i:∀ v σ H Q,t' v σ H Q->t v σ H Q):PGs X es t':=fun pins s σ H v u Q I r q=>h pins s σ H v u Q I r (i v σ H Q q)
theorem aR {i:Nat} {x:Str} {pos:Pos} (hN:X.N.Nodup) (hi:X.N[i]?=some x:=by rfl) (hx:Loc X.env.scope x:=by first | exact Or.inl rfl | exact Or.inr rfl) (hf:X.fn x=true\/X.env.scope.names.lookup x=some .local:=by first | exact .inl rfl | exact .inr rfl):SG C k X (.Name x pos) (gN i):=fun c=>
 (MW hN hi hx hf).imp fun v σ H Q h=>by
  obtain ⟨φ,δ,h,p,δ',rh,re,rv,e,q⟩:=h;cases e
  exact q _ (re.set rv i)
theorem C7:SGs C k X [] gNl:=fun c=>MX.imp fun v σ H Q h=>by
 obtain ⟨φ,δ,h,ps,δ',rh,re,rv,e,q⟩:=h;cases ps with
 | nil=>
  cases e
  cases v with
  | nil=>exact ⟨rfl,q σ re⟩
  | cons=>exact rv.elim
 | cons=>cases e
theorem fW {e:Expr} {es:List Expr} {t:Mg} {u:Mgs} (h1:SG C k X e t) (h2:SGs C k X es u) (hs:(iq (e :: es) X.env).map (·.2)=assign e X.env :: (iq es X.env).map (·.2):=by rfl):SGs C k X (e :: es) (gCn t u):=fun c=>
 (Jm (h1 c) (h2 c) hs).imp fun vs σ H Q h=>by
  obtain ⟨φ,δ,h,ps,δ',rh,re,rv,e,q⟩:=h;cases ps with
  | nil=>cases e
  | cons p r=>
   cases vs with
   | nil=>exact rv.elim
   | cons v vs=>
    obtain ⟨δ1,e1,e2⟩:=Option.bind_eq_some_iff.mp (show (t p δ).bind (u r)=some δ' from e)
    exact ⟨v,vs,rfl,φ,δ,h,p,δ1,rh,re,rv.1,e1,fun σ' re'=>⟨φ,δ1,h,r,δ',rh,re',rv.2,e2,q⟩⟩
theorem C8 {es:List Expr} {j:Nat} {u:Mgs} {n:Nat} {pos:Pos} (h:SGs C k X es u) (hn:(iq es X.env).length=n:=by rfl) (hst:(iq es X.env).findIdx? (·.1)=none:=by rfl):SG C k X (.Tuple es j pos) (gTp n u):=fun c=>
 (gT C.K c.K c.calm (h c) hn hst).imp fun v σ H Q h=>by
  obtain ⟨φ,δ,h,p,δ',rh,re,rv,e,q⟩:=h;cases p with
  | tup ps=>
   obtain ⟨a,vs,rfl,sa,ra⟩:=rv
   by_cases hl:ps.length=n
   ·have e':u ps δ=some δ':=by
     have:(if ps.length=n then u ps δ else none)=some δ':=e;rw [if_pos hl] at this;exact this
    exact ⟨a,vs,rfl,sa,by rw [<- ra.length]; exact hl,φ,δ,h,ps,δ',rh,re,ra,e',q⟩
   ·have:(if ps.length=n then u ps δ else none)=some δ':=e;rw [if_neg hl] at this;cases this
  | _=>cases e
theorem PS.imp {st:Stmt} {t t':TS} (h:PS X st t) (i:∀ D σ H,t' D σ H->t D σ H):PS X st t':=fun pins s σ H D I q=>h pins s σ H D I (i D σ H q)
theorem PSs.imp {st:List Stmt} {t t':TS} (h:PSs X st t) (i:∀ D σ H,t' D σ H->t D σ H):PSs X st t':=fun pins s σ H D I q=>h pins s σ H D I (i D σ H q)
noncomputable def aX (a b:Ms):Ms:=fun δ h=>match a δ h with
 | .nx δ1 h1=>b δ1 h1
 | r=>r
noncomputable def jU:Ms:=fun δ h=>.nx δ h
noncomputable def UY:Ms:=fun δ h=>.bk δ h
noncomputable def QF:Ms:=fun δ h=>.ct δ h
noncomputable def bM (i:Nat) (m:Me):Ms:=fun δ h=>(m δ h).fl fun p h1=>.nx (δ.set i (some p)) h1
noncomputable def Hn (m:Me) (t:Mg):Ms:=fun δ h=>(m δ h).fl fun p h1=>match t p δ with
 | some δ'=>.nx δ' h1
 | none=>.bad
noncomputable def Ei (m:Me):Ms:=fun δ h=>(m δ h).fl fun _ h1=>.nx δ h1
noncomputable def cJ (m:Me):Ms:=fun δ h=>(m δ h).fl fun p h1=>.rt p h1
noncomputable def SS:Ms:=fun _ h=>.rt .non h
noncomputable def iF (t:Ev->PH->Rs Bool) (a b:Ms):Ms:=fun δ h=>(t δ h).fl fun c h1=>match c with
 | true=>a δ h1
 | false=>b δ h1
section
variable {st:Stmt} {rest:List Stmt} {a b:Ms} {e:Expr} {m:Me} {pos:Pos}
theorem eJ:SSs C k X [] jU:=fun c=>MT.imp fun D σ H h=>by
 obtain ⟨φ,δ,h,rh,re,p⟩:=h;exact p.nx rh re
theorem QG {φ:List Addr} {H:Hp} {r:Fl} {b:Ms} {D:Ends} (h:cE C φ H (match r with | .nx δ1 h1=>b δ1 h1 | r=>r) D):cE C φ H r { D with nx:=rdS C b D }:=by
 cases r with
 | nx δ h'=>exact fun φ' σ H' p t rh re=>⟨φ',δ,h',rh,re,cE.weak p t h⟩
 | rt p h'=>exact h
 | bk δ h'=>exact h
 | ct δ h'=>exact h
 | exc x h'=>exact h
 | bad=>exact h
theorem aG (h1:SSt C k X st a) (h2:SSs C k X rest b):SSs C k X (st :: rest) (aX a b):=fun c=>(Jk (h1 c) (h2 c)).imp fun D σ H h=>by
 obtain ⟨φ,δ,h,rh,re,p⟩:=h;exact ⟨φ,δ,h,rh,re,QG p⟩
theorem aO (h1:SSt C k X st a):SSs C k X [st] a:=fun c=>MU (h1 c)
theorem SU:SSt C k X (.Continue pos) QF:=fun c=>BJ.imp fun D σ H h=>by
 obtain ⟨φ,δ,h,rh,re,p⟩:=h;exact p φ σ H av (Kp.refl H) rh re
theorem bB {i:Nat} {x:Str} {pos':Pos} (hN:X.N.Nodup) (he:SE C k X e m) (hi:X.N[i]?=some x:=by rfl) (hx:Loc X.env.scope x:=by first | exact Or.inl rfl | exact Or.inr rfl) (hs:swapsWith e (some (.Name x pos')) pos.line X.env=pure false:=by rfl)
  (hf:X.fn x=true\/X.env.scope.names.lookup x=some .local:=by first | exact .inl rfl | exact .inr rfl):SSt C k X (.Assign [.Name x pos'] e pos) (bM i m):=fun c=>(PN hN hi hx (he c) hs hf).imp fun D σ H h=>by
 obtain ⟨φ,δ,h,rh,re,p⟩:=h;refine ⟨φ,δ,h,rh,re,(post.fl p).imp ?_⟩;rintro v H1 ⟨φ1,x,h1,p1,t1,rh1,rv1,q1⟩;exact q1.nx rh1 ((re.mono p1 t1).set rv1 i)
theorem K' {tg:Expr} {t:Mg} (he:SE C k X e m) (hg:SG C k X tg t) (hs:swapsWithSole [tg] e pos.line X.env=pure false:=by rfl) (hw:swappedStores [tg] e X.env=pure none:=by rfl)
  (h1:(iq [tg] X.env).map (·.2)=[assign tg X.env]:=by rfl):SSt C k X (.Assign [tg] e pos) (Hn m t):=fun c=>(PM (he c) (hg c) hs hw h1).imp fun D σ H h=>by
 obtain ⟨φ,δ,h,rh,re,p⟩:=h;refine ⟨φ,δ,h,rh,re,(post.fl p).imp ?_⟩;rintro v H1 ⟨φ1,x,h1,p1,t1,rh1,rv1,q1⟩;cases et:t x δ with
 | none=>rw [et] at q1; exact q1.elim
 | some δ'=>
  rw [et] at q1;exact ⟨φ1,δ,h1,x,δ',rh1,re.mono p1 t1,rv1,et,fun σ' re'=>q1.nx rh1 re'⟩
theorem Ka (he:SE C k X e m) (hs:swapsWith e none pos.line X.env=pure false:=by rfl):SSt C k X (.Expr e pos) (Ei m):=fun c=>(MV (he c) hs).imp fun D σ H h=>by
 obtain ⟨φ,δ,h,rh,re,p⟩:=h;refine ⟨φ,δ,h,rh,re,(post.fl p).imp ?_⟩;rintro v H1 ⟨φ1,x,h1,p1,t1,rh1,rv1,q1⟩;exact q1.nx rh1 (re.mono p1 t1)
theorem bW (he:SE C k X e m):SSt C k X (.Return (some e) pos) (cJ m):=fun c=>(PJ (he c)).imp fun D σ H h=>by
 obtain ⟨φ,δ,h,rh,re,p⟩:=h;refine ⟨φ,δ,h,rh,re,(post.fl p).imp ?_⟩;rintro v H1 ⟨φ1,x,h1,p1,t1,rh1,rv1,q1⟩;exact q1.rt rh1 rv1
theorem mE {cnd:Expr} {as bs:List Stmt} {t:Ev->PH->Rs Bool} (hc:ST C k X cnd t) (ha:SSs C k X as a) (hb:SSs C k X bs b):SSt C k X (.If cnd as bs pos) (iF t a b):=fun c=>(S3 (hc c) (ha c) (hb c)).imp fun D σ H h=>by
 obtain ⟨φ,δ,h,rh,re,p⟩:=h;refine ⟨φ,δ,h,rh,re,(bY.fl p).imp ?_⟩;rintro d H1 ⟨φ1,h1,p1,t1,rh1,q1⟩;cases d with
 | true=>exact E1 ⟨φ1,δ,h1,rh1,re.mono p1 t1,q1⟩
 | false=>exact DZ ⟨φ1,δ,h1,rh1,re.mono p1 t1,q1⟩
end
structure Wk where
 xs:List PV
 g:PH->Bool
noncomputable def Ho (C:MC) (J:It) (w:Wk) (φ0:List Addr) (H0:Hp):Prop:=∀ φ H h,φ0<+:φ->Kp H0 H->RH C φ H h->w.g h=true->∀ i:Nat,
 (i < w.xs.length->J.go i H/\∀ x H',J.yld i H x H'->(∃ p,w.xs[i]?=some p/\RV C φ H' p x)/\Kp H H'/\RH C φ H' h)/\(w.xs.length<=i->J.stop i H)
noncomputable abbrev Mi:=Ev->PH->Rs Wk
noncomputable def fF (C:MC) (φ:List Addr) (H:Hp) (r:Rs Wk) (R:It->Hp->Prop):Prop:=match r with
 | .ok w h=>∀ φ' H' J,φ<+:φ'->Kp H H'->RH C φ' H' h->Ho C J w φ' H'->R J H'
 | .exc x h=>∀ φ' H',φ<+:φ'->Kp H H'->RH C φ' H' h->C.ex φ' H' x
 | .bad=>False
noncomputable def rdI (C:MC) (m:Mi):TI:=fun σ H R=>∃ φ δ h,RH C φ H h/\RE C φ H δ σ/\fF C φ H (m δ h) R
noncomputable def SI (C:MC) (k:Nat) (X:Cx) (tg iter:Expr) (m:Mi):Prop:=Cxt C k X->PI X tg iter (rdI C m)
noncomputable def lM (n:Nat) (xs:List PV) (h':PH):Bool:=match aP h' n with
 | some ys=>PV.beqs ys xs
 | none=>false
noncomputable def ofSeq (x:PV) (h:PH):Rs Wk:=match x with
 | .tup xs=>.ok ⟨xs,fun _=>true⟩ h
 | .ref n=>match aP h n with
  | some xs=>.ok ⟨xs,lM n xs⟩ h
  | none=>.bad
 | .fl xs=>.ok ⟨xs,fun _=>true⟩ h
 | _=>.bad
noncomputable def bH (m:Me):Mi:=fun δ h=>(m δ h).bind ofSeq
theorem cF {tg iter:Expr} {m:Me} (h:SE C k X iter m):SI C k X tg iter (bH m):=fun c=>by
 intro pins s σ H R I q;obtain ⟨φ,δ,hh,rh,re,p⟩:=q;have key:rd C m σ H fun v H1=>∃ φ1 x h1,φ<+:φ1/\Kp H H1/\RH C φ1 H1 h1/\RV C φ1 H1 x v/\fF C φ1 H1 (ofSeq x h1) R:=by
  refine ⟨φ,δ,hh,rh,re,?_⟩;unfold bH at p;cases e:m δ hh with
  | ok x h1=>
   rw [e] at p;intro φ' v H' p' t' rh' rv';refine ⟨φ',x,h1,p',t',rh',rv',?_⟩
   show fF C φ' H' (ofSeq x h1) R
   have p0:fF C φ H (ofSeq x h1) R:=p;cases e2:ofSeq x h1 with
   | ok w h2=>rw [e2] at p0; exact fun φ2 H2 J p2 t2=>p0 φ2 H2 J (p'.trans p2) (t'.trans t2)
   | exc z h2=>rw [e2] at p0; exact fun φ2 H2 p2 t2=>p0 φ2 H2 (p'.trans p2) (t'.trans t2)
   | bad=>rw [e2] at p0; exact p0
  | exc x h1=>rw [e] at p; exact p
  | bad=>rw [e] at p; exact p
 refine thn (h c pins s σ H _ I key) fun v s1 hz=>?_;obtain ⟨x,H1,I1,r1,φ1,x',h1,p1,t1,rh1,rv1,q1⟩:=hz;unfold ofSeq at q1;cases x' with
 | tup xs=>
  obtain ⟨a,vs,rfl,sa,ra⟩:=rv1;cases r1
  rw [<- c.K] at sa;obtain ⟨its,rv,p,hz⟩:=I1.tuple sa;refine wpAny_pyIter_tuple (show s1.heap.IsTuple a its.toArray from p) ?_
  refine ⟨s1.heap.objs.size,[s1.heap.objs.size],_,_,H1,rfl,I1.kept (t':=s1.toks) fun b o e=>ah _ e,DN a _,⟨_,ay _ rfl,rfl,rfl⟩,fun b hb=>?_,?_⟩
  ·have e:b=s1.heap.objs.size:=by simpa using hb
   subst e;exact I1.fpOk (ai _) (I1.hok.fresh (ai _))
  ·refine q1 φ1 H1 (Itt X.K a) av (Kp.refl H1) rh1 fun φ2 H2 h2 p2 t2 rh2 _ i=>⟨fun hi=>?_,fun hi=>⟨vs,t2.sq sa,by rw [<- ra.length]; exact hi⟩⟩;have hi':i < vs.length:=by rw [<- ra.length]; exact hi
   refine ⟨⟨vs,vs[i],t2.sq sa,by simp [hi']⟩,fun x H' y=>?_⟩;obtain ⟨e,y⟩:=y;subst e;obtain ⟨x2,e2,r2⟩:=ra.get (y vs (t2.sq sa));exact ⟨⟨x2,e2,r2.mono p2 t2⟩,Kp.refl _,rh2⟩
 | ref n=>
  obtain ⟨a,rfl,ha⟩:=rv1;cases r1
  dsimp only at q1;cases e:aP h1 n with
  | none=>rw [e] at q1; exact q1.elim
  | some xs=>
   rw [e] at q1;obtain ⟨a2,vs,ha2,sa,ra⟩:=bP rh1 e;rw [ha] at ha2; cases ha2;have sa':SqL X.K H1 a vs:=by rw [c.K]; exact sa
   obtain ⟨its,rv,p,hz⟩:=I1.list sa';refine km p.isList ?_;refine ⟨s1.heap.objs.size,[s1.heap.objs.size],_,_,H1,rfl,I1.kept (t':=s1.toks) fun b o e=>ah _ e,xU a _,⟨_,ay _ rfl,rfl,rfl⟩,fun b hb=>?_,?_⟩
   ·have e:b=s1.heap.objs.size:=by simpa using hb
    subst e;exact I1.fpOk (ai _) (I1.hok.fresh (ai _))
   ·refine q1 φ1 H1 (Itl X.K a) av (Kp.refl H1) rh1 fun φ2 H2 h2 p2 t2 rh2 hg i=>?_;have hg:(match aP h2 n with | some ys=>PV.beqs ys xs | none=>false)=true:=hg
    cases e2:aP h2 n with
    | none=>rw [e2] at hg; cases hg
    | some ys=>
     rw [e2] at hg;have hxy:=PV.beqs_eq hg;subst hxy;obtain ⟨a3,us,ha3,su,ru⟩:=bP rh2 e2;rw [gL p2 ha] at ha3; cases ha3;rw [<- c.K] at su;refine ⟨fun hi=>?_,fun hi=>⟨us,su,by rw [<- ru.length]; exact hi⟩⟩;have hi':i < us.length:=by rw [<- ru.length]; exact hi
     refine ⟨⟨us,us[i],su,by simp [hi']⟩,fun x H' y=>?_⟩;obtain ⟨e,y⟩:=y;subst e;obtain ⟨x2,e2,r2⟩:=ru.get (y us su);exact ⟨⟨x2,e2,r2⟩,Kp.refl _,rh2⟩
 | fl xs=>
  obtain ⟨a,vs,rfl,sa,ra⟩:=rv1;cases r1
  rw [<- c.K] at sa;obtain ⟨its,rv,p,hz⟩:=I1.list sa.sq;refine km p.isList ?_;refine ⟨s1.heap.objs.size,[s1.heap.objs.size],_,_,H1,rfl,I1.kept (t':=s1.toks) fun b o e=>ah _ e,xU a _,⟨_,ay _ rfl,rfl,rfl⟩,fun b hb=>?_,?_⟩
  ·have e:b=s1.heap.objs.size:=by simpa using hb
   subst e;exact I1.fpOk (ai _) (I1.hok.fresh (ai _))
  ·refine q1 φ1 H1 (Itl X.K a) av (Kp.refl H1) rh1 fun φ2 H2 h2 p2 t2 rh2 _ i=>⟨fun hi=>?_,fun hi=>⟨vs,(t2.sf sa).sq,by rw [<- ra.length]; exact hi⟩⟩;have hi':i < vs.length:=by rw [<- ra.length]; exact hi
   refine ⟨⟨vs,vs[i],(t2.sf sa).sq,by simp [hi']⟩,fun x H' y=>?_⟩;obtain ⟨e,y⟩:=y;subst e;obtain ⟨x2,e2,r2⟩:=ra.get (y vs (t2.sf sa).sq);exact ⟨⟨x2,e2,r2.mono p2 t2⟩,Kp.refl _,rh2⟩
 | _=>exact q1.elim
noncomputable def upTo (lo:Int):Nat->List PV
 | 0=>[]
 | n+1=>.int lo :: upTo (lo+1) n
theorem eY:∀ (n:Nat) (lo:Int),(upTo lo n).length=n
 | 0,_=>rfl
 | n+1,lo=>by simp [upTo,eY n]
theorem uD:∀ (n:Nat) (lo:Int) (i:Nat),i < n->(upTo lo n)[i]?=some (.int (lo+i))
 | 0,_,_,h=>by omega
 | n+1,lo,0,_=>by simp [upTo]
 | n+1,lo,i+1,h=>by
  simp only [upTo,ft];rw [uD n (lo+1) i (by omega)]
  congr 2
  omega
open Classical in
noncomputable def Ga:List PV->PH->Rs Wk:=fun xs h=>match xs with
 | [.int j]=>if -(2 ^ 62)<=j/\j < 2 ^ 62 then .ok ⟨upTo 0 j.toNat,fun _=>true⟩ h else .bad
 | _=>.bad
noncomputable def jG (ms:Ma):Mi:=fun δ h=>(ms δ h).bind Ga
theorem QH (lo:Int) (n:Nat) (φ:List Addr) (H:Hp):Ho C (Itr lo n) ⟨upTo lo n,fun _=>true⟩ φ H:=fun φ2 H2 h2 p2 t2 rh2 _ i=>by
 refine ⟨fun hi=>?_,fun hi=>?_⟩
 ·have hi':i < n:=by rw [<- eY n lo]; exact hi
  refine ⟨hi',fun x H' y=>?_⟩;obtain ⟨e,y⟩:=y;subst e y;exact ⟨⟨.int (lo+i),uD n lo i hi',rfl⟩,Kp.refl _,rh2⟩
 ·have:(upTo lo n).length<=i:=hi;rw [eY] at this;exact this
theorem postA.bindI {φ:List Addr} {H:Hp} {r:Rs (List PV)} {f:List PV->PH->Rs Wk} {R:It->Hp->Prop} (h:fF C φ H (r.bind f) R):postA C φ H r fun vs H1=>∃ φ1 ps h1,φ<+:φ1/\Kp H H1/\RH C φ1 H1 h1/\RVs C φ1 H1 ps vs/\fF C φ1 H1 (f ps h1) R:=by
 cases r with
 | ok a h'=>
  intro φ' v H' p' t' rh rv;refine ⟨φ',a,h',p',t',rh,rv,?_⟩;have p0:fF C φ H (f a h') R:=h;cases e2:f a h' with
  | ok w h2=>rw [e2] at p0; exact fun φ2 H2 J p2 t2=>p0 φ2 H2 J (p'.trans p2) (t'.trans t2)
  | exc z h2=>rw [e2] at p0; exact fun φ2 H2 p2 t2=>p0 φ2 H2 (p'.trans p2) (t'.trans t2)
  | bad=>rw [e2] at p0; exact p0
 | exc a h'=>exact h
 | bad=>exact h
theorem PI.imp {tg iter:Expr} {t t':TI} (h:PI X tg iter t) (i:∀ σ H R,t' σ H R->t σ H R):PI X tg iter t':=fun pins s σ H R I q=>h pins s σ H R I (i σ H R q)
theorem uE {x:Expr} {ms:Ma} {tg:Expr} {p pos:Pos} (ha:SA C k X [x] ms) (hb:("range" : Str)∈C.bs:=by decide) (hg:Gl X "range" := by rfl) (hs:bz [x] X.env=[(false,eval x X.env)]:=by rfl):SI C k X tg (.Call (.Name "range" p) [x] [] pos) (jG ms):=fun c=>
 (pr1 hg (c.bn _ hb) (ha c) hs).imp fun σ H R h=>by
  obtain ⟨φ,δ,h,rh,re,p⟩:=h;refine ⟨φ,δ,h,rh,re,(postA.bindI p).imp ?_⟩;rintro vs H1 ⟨φ1,xs,h1,p1,t1,rh1,rv1,q1⟩;unfold Ga at q1;split at q1
  ·obtain ⟨v,rfl,rx⟩:=rv1.one;cases rx
   rename_i j
   by_cases hj:-(2 ^ 62)<=j/\j < 2 ^ 62
   ·rw [if_pos hj] at q1;exact ⟨hj,q1 φ1 H1 _ av (Kp.refl _) rh1 (QH 0 j.toNat φ1 H1)⟩
   ·rw [if_neg hj] at q1; exact q1.elim
  ·exact q1.elim
noncomputable def fX (g:PH->Bool) (tg:Mg) (body:Ms):List PV->Ev->PH->Fl
 | [],δ,h=>if g h=true then .nx δ h else .bad
 | x :: xs,δ,h=>if g h=true then (match tg x δ with
  | none=>.bad
  | some δ1=>match body δ1 h with
   | .nx δ2 h2=>fX g tg body xs δ2 h2
   | .ct δ2 h2=>fX g tg body xs δ2 h2
   | .bk δ2 h2=>.nx δ2 h2
   | r=>r) else .bad
noncomputable def mF (mi:Mi) (tg:Mg) (body:Ms):Ms:=fun δ h=>(mi δ h).fl fun w h1=>fX w.g tg body w.xs δ h1
theorem fF.fl {φ:List Addr} {H:Hp} {r:Rs Wk} {f:Wk->PH->Fl} {D:Ends} (h:cE C φ H (r.fl f) D):fF C φ H r fun J H1=>∃ φ1 w h1,φ<+:φ1/\Kp H H1/\RH C φ1 H1 h1/\Ho C J w φ1 H1/\cE C φ1 H1 (f w h1) D:=by
 cases r with
 | ok a h'=>exact fun φ' H' J p t rh wk=>⟨φ',a,h',p,t,rh,wk,cE.weak p t h⟩
 | exc a h'=>exact h
 | bad=>exact h
theorem fF.imp {φ:List Addr} {H:Hp} {r:Rs Wk} {Q Q':It->Hp->Prop} (h:fF C φ H r Q) (i:∀ v H',Q v H'->Q' v H'):fF C φ H r Q':=by
 cases r with
 | ok a h'=>exact fun φ' H' J p t rh wk=>i J H' (h φ' H' J p t rh wk)
 | exc a h'=>exact h
 | bad=>exact h
theorem drop_cons {α:Type} {xs:List α} {i:Nat} {p:α} (h:xs[i]?=some p):xs.drop i=p :: xs.drop (i+1):=by
 obtain ⟨h1,h2⟩:=ab.mp h;rw [jc h1,h2]
theorem Nx {J:It} {w:Wk} {φ0:List Addr} {H0:Hp} {tg:Mg} {body:Ms} {D:Ends} {σ:St} {δ:Ev} {h:PH} (wk:Ho C J w φ0 H0) (rh:RH C φ0 H0 h) (re:RE C φ0 H0 δ σ) (p:cE C φ0 H0 (fX w.g tg body w.xs δ h) D):
  ∃ W:Nat->Nat->St->Hp->Prop,(∃ m,W 0 m σ H0)/\∀ i m σ H,W i m σ H->
   (J.stop i H/\D.nx σ H)\/(J.go i H/\∃ N:St->Hp->Prop,(∀ σ' H',N σ' H'->∃ m',m' < m/\W (i+1) m' σ' H')/\∀ x H',J.yld i H x H'->rdG C tg x σ H' fun σ2 H2=>rdS C body { D with nx:=N,ct:=N,bk:=D.nx } σ2 H2):=by
 refine ⟨fun i m σ H=>m=w.xs.length - i/\i<=w.xs.length/\∃ φ δ h,φ0<+:φ/\Kp H0 H/\RH C φ H h/\RE C φ H δ σ/\cE C φ H (fX w.g tg body (w.xs.drop i) δ h) D,
  ⟨w.xs.length,by simp,b8 _,φ0,δ,h,av,Kp.refl _,rh,re,by rw [List.drop_zero]; exact p⟩,?_⟩
 rintro i m σ H ⟨rfl,hi,φ,δ,h,pp,tt,rh,re,p⟩
 by_cases hlt:i < w.xs.length
 ·have hd:w.xs.drop i=w.xs[i] :: w.xs.drop (i+1):=drop_cons (by simp [hlt]);rw [hd] at p;unfold fX at p
  by_cases hg:w.g h=true
  ·rw [if_pos hg] at p;obtain ⟨go,step⟩:=(wk φ H h pp tt rh hg i).1 hlt;refine .inr ⟨go,fun σ' H'=>∃ φ δ h,φ0<+:φ/\Kp H0 H'/\RH C φ H' h/\RE C φ H' δ σ'/\cE C φ H' (fX w.g tg body (w.xs.drop (i+1)) δ h) D,fun σ' H' ⟨φ',δ',h',q⟩=>⟨w.xs.length - (i+1),by omega,rfl,hlt,φ',δ',h',q⟩,fun x H' y=>?_⟩;obtain ⟨⟨q,eq,rv⟩,t1,rh1⟩:=step x H' y;have eq':w.xs[i]=q:=by
    have:w.xs[i]?=some w.xs[i]:=by simp [hlt]
    rw [this] at eq;exact bg eq
   rw [eq'] at p;cases et:tg q δ with
   | none=>rw [et] at p; exact p.elim
   | some δ1=>
    rw [et] at p;dsimp only at p;refine ⟨φ,δ,h,q,δ1,rh1,re.mono av t1,rv,et,fun σ2 re2=>⟨φ,δ1,h,rh1,re2,?_⟩⟩;have p:=cE.weak av t1 p;cases eb:body δ1 h with
    | nx δ2 h2=>rw [eb] at p; exact fun φ3 σ3 H3 p3 t3 rh3 re3=>⟨φ3,δ2,h2,pp.trans p3,(tt.trans t1).trans t3,rh3,re3,cE.weak p3 t3 p⟩
    | ct δ2 h2=>rw [eb] at p; exact fun φ3 σ3 H3 p3 t3 rh3 re3=>⟨φ3,δ2,h2,pp.trans p3,(tt.trans t1).trans t3,rh3,re3,cE.weak p3 t3 p⟩
    | bk δ2 h2=>rw [eb] at p; exact p
    | rt z h2=>rw [eb] at p; exact p
    | exc z h2=>rw [eb] at p; exact p
    | bad=>rw [eb] at p; exact p
  ·rw [if_neg hg] at p;exact p.elim
 ·have e:i=w.xs.length:=by omega
  subst e;rw [k6] at p;unfold fX at p
  by_cases hg:w.g h=true
  ·rw [if_pos hg] at p;exact .inl ⟨(wk φ H h pp tt rh hg _).2 (ai _),p.nx rh re⟩
  ·rw [if_neg hg] at p;exact p.elim
theorem rR {tg iter:Expr} {body:List Stmt} {mi:Mi} {t:Mg} {mb:Ms} {pos:Pos} (hi:SI C k X tg iter mi) (hg:SG C k X tg t) (hb:SSs C k X body mb) (hp:PassesOwn (model X.prog X.w) X.A X.env X.xe:=by exact PassesOwn.never)
  (hs:∀ x,ia iter X.env x=pure x:=by intro _; rfl):SSt C k X (.For tg iter body [] pos) (mF mi t mb):=fun c=>(PP hp c.calm (hi c) (hg c) (hb c) hs).imp fun D σ H h=>by
 obtain ⟨φ,δ,h,rh,re,p⟩:=h;refine ⟨φ,δ,h,rh,re,(fF.fl p).imp ?_⟩;rintro J H1 ⟨φ1,w,h1,p1,t1,rh1,wk,q1⟩;exact Nx wk rh1 (re.mono p1 t1) q1
end L2
namespace L2
open PySem PySem.Spec PyProof.Rows
variable {C:MC} {k:Nat} {X:Cx}
noncomputable def cB (js:List (Option Nat)) (δ:Ev):Ev:=js.map fun o=>match o with
 | none=>none
 | some j=>Ax δ j
theorem Gb:∀ {σ:St} {i:Nat} {v:V},σ[i]?=some (some v)->E2 σ i=some v
 | [],_,_,h=>by simp at h
 | x :: _,0,v,h=>by
  have:x=some v:=by simpa using h
  exact this
 | _ :: r,n+1,v,h=>Gb (σ:=r) (i:=n) (by simpa using h)
theorem RE.cap {φ:List Addr} {H:Hp} {δ:Ev} {σ:St} (re:RE C φ H δ σ) (js:List (Option Nat)):RE C φ H (cB js δ) (iR js σ):=by
 refine ⟨by simp [cB,iR],fun i p e=>?_⟩;unfold cB at e;unfold iR;rw [aj] at e ⊢;cases q:js[i]? with
 | none=>rw [q] at e; cases e
 | some o=>
  rw [q] at e;cases o with
  | none=>cases e
  | some j=>
   obtain ⟨v,hv,rv⟩:=re.2 j p (tX (bg e));exact ⟨v,by show some (E2 σ j)=_; rw [Gb hv],rv⟩
noncomputable def jH (g:PH->Bool) (tg:Mg) (tst:Ev->PH->Rs Bool) (elt:Me) (δ0:Ev) (n:Nat):List PV->PH->Rs PV
 | [],h=>if g h=true then .ok (.ref n) h else .bad
 | x :: xs,h=>if g h=true then (match tg x δ0 with
  | none=>.bad
  | some δ1=>(tst δ1 h).bind fun b h1=>match b with
   | false=>jH g tg tst elt δ0 n xs h1
   | true=>(elt δ1 h1).bind fun p h2=>match dF h2 n with
    | some ys=>if ys.length < au then jH g tg tst elt δ0 n xs (h2.set n (.lst (ys++[p]))) else .bad
    | none=>.bad) else .bad
noncomputable def bE (js:List (Option Nat)) (mi:Mi) (tg:Mg) (tst:Ev->PH->Rs Bool) (elt:Me):Me:=fun δ h=>(mi δ h).bind fun w h1=>jH w.g tg tst elt (cB js δ) h1.length w.xs (h1++[.lst []])
noncomputable def dS:Ev->PH->Rs Bool:=fun _ h=>.ok true h
noncomputable def STs (C:MC) (k:Nat) (X:Cx) (es:List Expr) (m:Ev->PH->Rs Bool):Prop:=Cxt C k X->PTs X es (rdB C m)
theorem eK:STs C k X [] dS:=fun c pins s σ H Q I h=>by
 obtain ⟨φ,δ,h,rh,re,p⟩:=h;exact N9 pins s σ H Q I (p.val rh)
theorem hV {e:Expr} {m:Ev->PH->Rs Bool} (h:ST C k X e m):STs C k X [e] m:=fun c=>N' (h c)
theorem fF.bind {φ:List Addr} {H:Hp} {r:Rs Wk} {f:Wk->PH->Rs PV} {Q:VK} (h:post C φ H (r.bind f) Q):fF C φ H r fun J H1=>∃ φ1 w h1,φ<+:φ1/\Kp H H1/\RH C φ1 H1 h1/\Ho C J w φ1 H1/\post C φ1 H1 (f w h1) Q:=by
 cases r with
 | ok a h'=>exact fun φ' H' J p t rh wk=>⟨φ',a,h',p,t,rh,wk,post.weak p t h⟩
 | exc a h'=>exact h
 | bad=>exact h
theorem Kb {J:It} {w:Wk} {φ0:List Addr} {H0:Hp} {tg:Mg} {tst:Ev->PH->Rs Bool} {elt:Me} {Q:VK} {σ:St} {δ:Ev} {h:PH} {js:List (Option Nat)} (wk:Ho C J w φ0 H0) (rh:RH C φ0 H0 h) (re:RE C φ0 H0 δ σ)
  (p:post C φ0 H0 (jH w.g tg tst elt (cB js δ) h.length w.xs (h++[.lst []])) Q) (acc:Addr) (hacc:H0 acc=none):
  ∃ W:Nat->Nat->Hp->Prop,(∃ m,W 0 m (upd H0 acc (.lst [])))/\∀ i m H2,W i m H2->
   (J.stop i H2/\Q (.ref acc) H2)\/(J.go i H2/\∃ N:Hp->Prop,(∀ H',N H'->∃ m',m' < m/\W (i+1) m' H')/\∀ x H3,J.yld i H2 x H3->Pf js (rdG C tg) (rdB C tst) (rd C elt) σ acc x H3 N):=by
 have hlen:(φ0++[acc])[h.length]?=some acc:=by rw [<- rh.len]; simp
 refine ⟨fun i m H=>m=w.xs.length - i/\i<=w.xs.length/\∃ φ h',(φ0++[acc])<+:φ/\Kp H0 H/\RH C φ H h'/\post C φ H (jH w.g tg tst elt (cB js δ) h.length (w.xs.drop i) h') Q,
  ⟨w.xs.length,by simp,b8 _,φ0++[acc],h++[.lst []],av,Kp.new hacc,rh.new (o:=.lst []) hacc ⟨[],bJ,trivial⟩,by rw [List.drop_zero]; exact post.weak (cw _ _) (Kp.new hacc) p⟩,?_⟩
 rintro i m H ⟨rfl,hi,φ,h',pp,tt,rh',p⟩;have pp0:φ0<+:φ:=(cw _ _).trans pp
 by_cases hlt:i < w.xs.length
 ·have hd:w.xs.drop i=w.xs[i] :: w.xs.drop (i+1):=drop_cons (by simp [hlt]);rw [hd] at p;unfold jH at p
  by_cases hg:w.g h'=true
  ·rw [if_pos hg] at p;obtain ⟨go,step⟩:=(wk φ H h' pp0 tt rh' hg i).1 hlt;refine .inr ⟨go,fun H'=>∃ φ h',(φ0++[acc])<+:φ/\Kp H0 H'/\RH C φ H' h'/\post C φ H' (jH w.g tg tst elt (cB js δ) h.length (w.xs.drop (i+1)) h') Q,fun H' ⟨φ',h',q⟩=>⟨w.xs.length - (i+1),by omega,rfl,hlt,φ',h',q⟩,fun x H' y=>?_⟩;obtain ⟨⟨q,eq,rv⟩,t1,rh1⟩:=step x H' y;have eq':w.xs[i]=q:=by
    have:w.xs[i]?=some w.xs[i]:=by simp [hlt]
    rw [this] at eq;exact bg eq
   rw [eq'] at p;cases et:tg q (cB js δ) with
   | none=>rw [et] at p; exact p.elim
   | some δ1=>
    rw [et] at p;have re1:RE C φ H' (cB js δ) (iR js σ):=(re.mono pp0 (tt.trans t1)).cap js;refine ⟨φ,cB js δ,h',q,δ1,rh1,re1,rv,et,fun σ2 re2=>⟨φ,δ1,h',rh1,re2,(bY.bind (post.weak av t1 p)).imp ?_⟩⟩;rintro b H5 ⟨φ5,h5,p5,t5,rh5,q5⟩;cases b with
    | false=>exact DZ ⟨φ5,h5,pp.trans p5,(tt.trans t1).trans t5,rh5,q5⟩
    | true=>
     refine E1 ⟨φ5,δ1,h5,rh5,re2.mono p5 t5,(post.bind q5).imp ?_⟩;rintro v H6 ⟨φ6,z,h6,p6,t6,rh6,rv6,q6⟩;cases e6:dF h6 h.length with
     | none=>rw [e6] at q6; exact q6.elim
     | some ys=>
      rw [e6] at q6;obtain ⟨hz,q6⟩:=q6.ite;have hφ:φ6[h.length]?=some acc:=gL ((pp.trans p5).trans p6) hlen;obtain ⟨vs,hH,rvs⟩:=rh6.at' h.length acc _ hφ (iE e6);refine ⟨vs,hH,by rw [<- rvs.length]; exact hz,φ6,h6.set h.length (.lst (ys++[z])),(pp.trans p5).trans p6,(((tt.trans t1).trans t5).trans t6).trans (Kp.lst hH),
       rh6.write hφ (by rw [hH]; trivial) ⟨vs++[v],bJ,(rvs.snoc rv6).mono av (Kp.lst hH)⟩,post.weak av (Kp.lst hH) q6⟩
  ·rw [if_neg hg] at p;exact p.elim
 ·have e:i=w.xs.length:=by omega
  subst e;rw [k6] at p;unfold jH at p
  by_cases hg:w.g h'=true
  ·rw [if_pos hg] at p;exact .inl ⟨(wk φ H h' pp0 tt rh' hg _).2 (ai _),p.val rh' ⟨acc,rfl,gL pp hlen⟩⟩
  ·rw [if_neg hg] at p;exact p.elim
theorem Gc {js:List (Option Nat)} {mi:Mi} {tg:Mg} {tst:Ev->PH->Rs Bool} {elt:Me} {σ:St} {H:Hp} {Q:VK} (h:rd C (bE js mi tg tst elt) σ H Q):G1 js (rdI C mi) (rdG C tg) (rdB C tst) (rd C elt) σ H Q:=by
 obtain ⟨φ,δ,h,rh,re,p⟩:=h;refine ⟨φ,δ,h,rh,re,(fF.bind p).imp ?_⟩;rintro J H1 ⟨φ1,w,h1,p1,t1,rh1,wk,q1⟩;intro acc hacc;exact Kb wk rh1 (re.mono p1 t1) q1 acc hacc
section
variable {elt iter tg:Expr} {ifs:List Expr} {sc:Scope} {pos:Pos} {os:Scope} {oN N:List Str} {js:List (Option Nat)} {mi:Mi} {g:Mg} {tt:Ev->PH->Rs Bool} {me:Me}
theorem cK (hes:X.env.scope=os) (heN:X.N=oN) (ok:lX os oN sc N js=true) (hi:SI C k X tg iter mi)
  (hg:∀ C' fp s₀ H₀,SG C k (X.comp sc N C' fp s₀ H₀) tg g) (ht:∀ C' fp s₀ H₀,STs C k (X.comp sc N C' fp s₀ H₀) ifs tt) (he:∀ C' fp s₀ H₀,SE C k (X.comp sc N C' fp s₀ H₀) elt me)
  (hs:∀ x,ia iter X.env x=pure x:=by intro _; rfl):SE C k X (.ListComp elt [⟨tg,iter,ifs,0⟩] sc pos) (bE js mi g tt me):=fun c=>
 (Na c.calm hes heN ok (hi c) (fun a b s H=>hg a b s H (c.comp sc N a b s H)) (fun a b s H=>ht a b s H (c.comp sc N a b s H)) (fun a b s H=>he a b s H (c.comp sc N a b s H)) hs).imp fun σ H Q h=>Gc h
theorem iG {i:Nat} {x:Str} {pos' spos:Pos} (hN:X.N.Nodup) (hx':X.N[i]?=some x) (hloc:X.env.scope.names.lookup x=some .local) (hes:X.env.scope=os) (heN:X.N=oN) (ok:lX os oN sc N js=true) (hi:SI C k X tg iter mi)
  (hg:∀ C' fp s₀ H₀,SG C k (X.comp sc N C' fp s₀ H₀) tg g) (ht:∀ C' fp s₀ H₀,STs C k (X.comp sc N C' fp s₀ H₀) ifs tt) (he:∀ C' fp s₀ H₀,SE C k (X.comp sc N C' fp s₀ H₀) elt me)
  (hsw:swapsWith (.ListComp elt [⟨tg,iter,ifs,0⟩] sc pos) (some (.Name x pos')) spos.line X.env=pure true:=by rfl)
  (hs:∀ x,ia iter X.env x=pure x:=by intro _; rfl):SSt C k X (.Assign [.Name x pos'] (.ListComp elt [⟨tg,iter,ifs,0⟩] sc pos) spos) (bM i (bE js mi g tt me)):=fun c=>
 (E3 hN hx' hloc c.calm hes heN ok (hi c) (fun a b s H=>hg a b s H (c.comp sc N a b s H)) (fun a b s H=>ht a b s H (c.comp sc N a b s H)) (fun a b s H=>he a b s H (c.comp sc N a b s H)) hsw hs).imp fun D σ H h=>by
  obtain ⟨φ,δ,h,rh,re,p⟩:=h;refine Gc ⟨φ,δ,h,rh,re,(post.fl p).imp ?_⟩;rintro v H1 ⟨φ1,x,h1,p1,t1,rh1,rv1,q1⟩;exact q1.nx rh1 ((re.mono p1 t1).set rv1 i)
end
noncomputable def mFn (N:Nat) (body:Ms):Fn:=fun args h=>match body (args.map some++c4 (N - args.length) none) h with
 | .nx _ h'=>.ok .non h'
 | .rt p h'=>.ok p h'
 | .exc x h'=>.exc x h'
 | _=>.bad
theorem RE.start {φ:List Addr} {H:Hp} {ps:List PV} {vs:List V} (r:RVs C φ H ps vs) (N:List Str):RE C φ H (ps.map some++c4 (N.length - ps.length) none) (start N vs):=by
 unfold L2.start;refine ⟨by simp [r.length],fun i p e=>?_⟩
 by_cases hi:i < ps.length
 ·rw [dh (by simpa using hi),aj] at e
  rw [dh (by simpa [<- r.length] using hi),aj]
  cases q:ps[i]? with
  | none=>rw [q] at e; cases e
  | some x=>
   rw [q] at e;cases e
   obtain ⟨v,hv,rv⟩:=r.at q;exact ⟨v,by rw [hv]; rfl,rv⟩
 ·rw [e9 (by simpa using hi)] at e
  rw [List.getElem?_replicate] at e;split at e
  ·cases e
  ·cases e
theorem cQ {P:Program} {mg:Str->Option Value} {base:Heap} {x qual:Str} {st:Stmt} {f:Addr} {fd:c5} {N ps:List Str} {body:Ms} (hex:∀ φ H x,¬ C.ex φ H x) (hbn:∀ x∈C.bs,mg x=none)
  (F:Fun C.K x qual st f fd) (S:aZ N ps (aF st))
  (hb:∀ (cdv:Value) (A:Around) (outer:List Env) (s:Shared) (H:Hp) (E:XK),SSs C k (DU CX0 P C.w C.K mg base N qual (aF st) f cdv A outer s H E).nox (aQ st) body):
  aY P C.w C.K mg base CX0 (k+1) f fd ps (spM C ps.length (mFn N.length body)):=by
 refine F.ok S (fun vs H Q E h=>?_) (fun cdv A outer s H vs Q E hr h=>?_)
 ·obtain ⟨φ,h,xs,rh,rv,hl,_⟩:=h;rw [<- rv.length];exact hl
 ·obtain ⟨φ,h,xs,rh,rv,hl,p⟩:=h;refine ⟨_,hb cdv A outer s H E ⟨rfl,rfl,hr,hbn,rfl⟩,φ,xs.map some++c4 (N.length - xs.length) none,h,rh,RE.start rv N,?_⟩;unfold mFn at p;cases e:body (xs.map some++c4 (N.length - xs.length) none) h with
  | nx δ h'=>rw [e] at p; exact fun φ' σ' H' pp tt rh' re'=>p φ' .non H' pp tt rh' rfl
  | rt z h'=>rw [e] at p; exact p
  | exc z h'=>rw [e] at p; exact fun φ' H' pp tt rh'=>(hex _ _ _ (p φ' H' pp tt rh')).elim
  | bk δ h'=>rw [e] at p; exact p.elim
  | ct δ h'=>rw [e] at p; exact p.elim
  | bad=>rw [e] at p; exact p.elim
theorem QI {f:Fn} {H:Hp} {Q:VK} {E:XK} {a:Addr} {ns:List Int} (hO:JB H) (ho:SqL C.K H a (ns.map V.int)) (hf:∃ h,f [.fl (ns.map PV.int)] []=.ok (.bl true) h) (hQ:∀ H',Q (.bl true) H'):spM C 1 f [.ref a] H Q E:=by
 have r0:∀ ns:List Int,RVs C [] H (ns.map PV.int) (ns.map V.int):=by
  intro ns
  induction ns with
  | nil=>trivial
  | cons n ns ih=>exact ⟨rfl,ih⟩
 have hs:SqF C.K H a (ns.map V.int):=by
  rcases ho with (h | ⟨o,h⟩) | h
  ·rcases hO a with z | ⟨o,xs,z⟩
   ·rw [z] at h; cases h
   ·rw [z] at h; cases h
  ·exact .inl ⟨o,h⟩
  ·exact .inr h
 refine ⟨[],[],[.fl (ns.map PV.int)],⟨rfl,by simp,fun n b ob h1 h2=>by simp at h1⟩,⟨⟨a,_,rfl,hs,r0 ns⟩,trivial⟩,rfl,?_⟩;obtain ⟨h,e⟩:=hf;rw [e];intro φ' v H' _ _ _ rv;cases rv
 exact hQ H'
end L2
namespace L2
open PySem PySem.Spec PyProof.Rows
variable {C:MC} {k:Nat} {X:Cx}
noncomputable def tyN (x:PV) (h:PH):Option String:=match x with
 | .non=>some "NoneType"
 | .bl _=>some "bool"
 | .int _=>some "int"
 | .str _=>some "str"
 | .tup _=>some "tuple"
 | .fl _=>some "list"
 | .ref n=>match h[n]? with
  | some (.lst _)=>some "list"
  | some (.dK _)=>some "dict"
  | _=>none
 | .ty _=>none
noncomputable def C9 (t c:String):Bool:=t == c || (t == "bool" && c == "int")
noncomputable def known:List String:=["int","str","bool","list","tuple","dict"]
noncomputable def Ny:List PV->PH->Rs PV:=fun xs h=>match xs with
 | [x,.ty c]=>match tyN x h with
  | some t=>if c∈known then .ok (.bl (C9 t c)) h else .bad
  | none=>.bad
 | _=>.bad
noncomputable def Nz:List PV->PH->Rs PV:=fun xs h=>match xs with
 | [.int i,.int j]=>.ok (.int (if j < i then j else i)) h
 | _=>.bad
theorem SV:gM C k X (.builtin "min") Nz:=fun c=>(GS c.calm).imp fun vs H Q h=>by
 obtain ⟨φ,h,ps,rh,rv,po⟩:=h;unfold Nz at po;split at po
 ·obtain ⟨v,w,rfl,rx,ry⟩:=rv.two;cases rx; cases ry;exact ⟨_,_,rfl,po.val rh rfl⟩
 ·exact po.elim
noncomputable def mMt (ty:PV->PH->Bool) (g:PV->List PV->PH->Rs PV) (mo:Me) (ms:Ma):Me:=fun δ h=>(mo δ h).bind fun x h1=>if ty x h1=true then (ms δ h1).bind fun ps h2=>g x ps h2 else .bad
noncomputable def NA (ty:PV->PH->Bool) (g:PV->List PV->PH->Rs PV) (mo:Me):Me:=fun δ h=>(mo δ h).bind fun x h1=>if ty x h1=true then g x [] h1 else .bad
noncomputable def rM (C:MC) (g:PV->List PV->PH->Rs PV):V->List V->Hp->VK->Prop:=fun x xs H Q=>∃ φ h p ps,RH C φ H h/\RV C φ H p x/\RVs C φ H ps xs/\post C φ H (g p ps h) Q
noncomputable def MtS (C:MC) (k:Nat) (X:Cx) (T:String) (ty:PV->PH->Bool) (id:String) (g:PV->List PV->PH->Rs PV):Prop:=Cxt C k X->MtR X id (rM C g)/\∀ φ H h p x,RH C φ H h->RV C φ H p x->ty p h=true->tyV C.K T x H
section
variable {o e:Expr} {es:List Expr} {mo:Me} {ms:Ma} {name:Str} {apos cpos:Pos} {T id:String} {ty:PV->PH->Bool} {g:PV->List PV->PH->Rs PV}
theorem QJ (pa:PlainAttrs T) (slot:Slot T name id) (hty:typeOf (.builtin id)=pure (.type "method_descriptor")) (hm:MtS C k X T ty id g) (ho:SE C k X o mo) (ha:SA C k X (e :: es) ms)
  (hbase:attributeBase o name X.env (eval o X.env)=eval o X.env:=by rfl)
  (hfew:((backTo cpos (bz (e :: es) X.env)).all (fun x=>!x.1) && (backToKw cpos (keywordEach [] X.env)).all (fun x=>x.1.isSome)
   && decide ((e :: es).length+([]:List Keyword).length+(if ([]:List Keyword).isEmpty then 0 else 1) < 30))=true:=by rfl)
  (hline:(apos.endLine == cpos.line)=true:=by rfl) (hs:bz (e :: es) X.env=(false,eval e X.env) :: bz es X.env:=by rfl) (hplain:(backTo cpos (bz es X.env)).any (·.1)=false:=by rfl):
  SE C k X (.Call (.Attribute o name apos) (e :: es) [] cpos) (mMt ty g mo ms):=fun c=>(Sj pa slot hty (hm c).1 (ho c) (ha c) hbase hfew hline hs hplain).imp fun σ H Q h=>by
 obtain ⟨φ,δ,h,rh,re,p⟩:=h;refine ⟨φ,δ,h,rh,re,(post.bind p).imp ?_⟩;rintro v H1 ⟨φ1,x,h1,p1,t1,rh1,rv1,q1⟩;obtain ⟨ht,q1⟩:=q1.ite;refine ⟨by rw [c.K]; exact (hm c).2 φ1 H1 h1 x v rh1 rv1 ht,φ1,δ,h1,rh1,re.mono p1 t1,(postA.bind q1).imp ?_⟩;rintro vs H2 ⟨φ2,xs,h2,p2,t2,rh2,rv2,q2⟩;exact ⟨φ2,h2,x,xs,rh2,rv1.mono p2 t2,rv2,q2⟩
end
theorem MtR.imp {id:String} {r r':V->List V->Hp->VK->Prop} (h:MtR X id r) (i:∀ x xs H Q,r' x xs H Q->r x xs H Q):MtR X id r':=fun pins s σ H x xs v us Q I rx rs q=>h pins s σ H x xs v us Q I rx rs (i x xs H Q q)
noncomputable def isL (x:PV) (h:PH):Bool:=match x with
 | .ref n=>(dF h n).isSome
 | _=>false
theorem QK {φ:List Addr} {H:Hp} {h:PH} {p:PV} {x:V} (rh:RH C φ H h) (rv:RV C φ H p x) (e:isL p h=true):tyV C.K "list" x H:=by
 cases p with
 | ref n=>
  obtain ⟨a,rfl,ha⟩:=rv;obtain ⟨xs,hx⟩:=Option.isSome_iff_exists.mp (show (dF h n).isSome=true from e)
  obtain ⟨vs,hH,ra⟩:=rh.at' n a _ ha (iE hx);exact .inl ⟨rfl,vs,SqL.of hH⟩
 | _=>cases e
noncomputable def onL (f:List PV->List PV->Option (PV×List PV)):PV->List PV->PH->Rs PV:=fun x ps h=>match x with
 | .ref n=>match dF h n with
  | some xs=>match f xs ps with
   | some (r,ys)=>.ok r (h.set n (.lst ys))
   | none=>.bad
  | none=>.bad
 | _=>.bad
theorem QL {f:List PV->List PV->Option (PV×List PV)} {x:V} {xs:List V} {H:Hp} {Q:VK} (h:rM C (onL f) x xs H Q):∃ φ l ps ys vs r zs,x=.ref l/\H l=some (.lst vs)/\RVs C φ H ys vs/\RVs C φ H ps xs/\f ys ps=some (r,zs)/\
  ∀ (v:V) (ws:List V),RV C φ H r v->RVs C φ H zs ws->Q v (upd H l (.lst ws)):=by
 obtain ⟨φ,h,p,ps,rh,rx,rs,po⟩:=h;unfold onL at po;cases p with
 | ref n=>
  obtain ⟨a,rfl,ha⟩:=rx;dsimp only at po;cases e:dF h n with
  | none=>rw [e] at po; exact po.elim
  | some ys=>
   rw [e] at po;dsimp only at po;obtain ⟨vs,hH,ra⟩:=rh.at' n a _ ha (iE e);cases ef:f ys ps with
   | none=>rw [ef] at po; exact po.elim
   | some rz=>
    rw [ef] at po;obtain ⟨r,zs⟩:=rz;exact ⟨φ,a,ps,ys,vs,r,zs,rfl,hH,ra,rs,ef,fun v ws rv rw'=>po.lset rh ha hH rw' rv⟩
 | _=>exact po.elim
noncomputable def eX:List PV->List PV->Option (PV×List PV):=fun xs ps=>match ps with
 | [p]=>if xs.length < au then some (.non,xs++[p]) else none
 | _=>none
theorem Hq:MtR X "list.append" (rM C (onL eX)):=MtR.imp (show MtR X "list.append" FZ from xZ) fun x xs H Q h=>by
 obtain ⟨φ,l,ps,ys,vs,r,zs,rfl,hH,ra,rs,ef,q⟩:=QL h;unfold eX at ef;split at ef
 ·split at ef
  ·rename_i hz;cases ef
   obtain ⟨v,rfl,rx⟩:=rs.one;exact ⟨l,vs,v,rfl,rfl,hH,by rw [<- ra.length]; exact hz,q .non _ rfl (ra.snoc rx)⟩
  ·cases ef
 ·cases ef
theorem uF:MtS C k X "list" isL "list.append" (onL eX):=fun c=>⟨Hq,fun φ H h p x rh rv e=>QK rh rv e⟩
noncomputable def SX (K:af):R2:=fun x y H Q=>∃ a b ys,x=.ref a/\y=.ref b/\SqT K H a []/\SqT K H b ys/\Q (.ref b) H
theorem NB:OpR X (fe .Add) (SX X.K):=by
 intro pins s σ H x y v u Q I rx ry h;obtain ⟨a,b,ys,rfl,rfl,ha,hb,q⟩:=h;cases rx
 cases ry
 obtain ⟨its,r1,p1,_⟩:=I.tuple ha;obtain ⟨its2,r2,p2,_⟩:=I.tuple hb;cases r1
 obtain ⟨⟨cls,dd,data,sl⟩,ho,hc,n,hd⟩:=id p1;obtain ⟨⟨cls2,dd2,data2,sl2⟩,ho2,hc2,n2,hd2⟩:=id p2;simp only at hc hd hc2 hd2;subst hc hd hc2 hd2;exact concat_meets ⟨_,ho,rfl⟩ ⟨_,ho2,rfl⟩ noFill_tuple_add seq_tuple_add PySem.F.slot_tuple_add PySem.F.entry_tuple_add (PySem.F.args_tuple_add_2 _ _)
   (tuple_addW0 a b ([]:List Value).toArray its2.toArray n n2 dd dd2 sl sl2 (by simp)) ⟨ho,ho2,⟨.ref b,H,I,rfl,q⟩⟩
noncomputable def bF:PV->PV->PH->Rs PV:=fun x y h=>match x,y with
 | .tup [],.tup ys=>.ok (.tup ys) h
 | x,y=>JX x y h
theorem bQ:OpS C k X (fe .Add) bF:=fun c=>((SF c).or (by have:=NB (X:=X); rw [c.K] at this; exact this)).imp fun x y H Q h=>by
 obtain ⟨φ,h,p,q,rh,rx,ry,po⟩:=h;unfold bF at po;split at po
 ·obtain ⟨a,vs,rfl,sa,ra⟩:=rx;obtain ⟨b,us,rfl,sb,rb⟩:=ry;have:vs=[]:=by cases vs <;> first | rfl | exact ra.elim
  subst this;exact .inr ⟨a,b,us,rfl,rfl,sa,sb,po.val rh ⟨b,us,rfl,sb,rb⟩⟩
 ·exact .inl ⟨φ,h,p,q,rh,rx,ry,po⟩
end L2
namespace L2
open PySem PySem.Spec PyProof.Rows
variable {C:MC} {k:Nat} {X:Cx}
theorem SY:UnS C k X (unaryOp .USub) Nq:=fun c=>by
 have h:UnR X (unaryOp .USub) (rU fun i=>.int (-i)):=Q4;intro pins s σ H x v Q I rx q;refine h pins s σ H x v Q I rx ?_;obtain ⟨φ,h,p,rh,rv,po⟩:=q;unfold Nq at po;cases p with
 | int i=>cases rv; exact ⟨i,rfl,po.val rh rfl⟩
 | _=>exact po.elim
end L2
namespace L2
open PySem
@[irreducible] noncomputable def Rs.W {α:Type} (r:Rs α) (Q:α->PH->Prop):Prop:=match r with
 | .ok a h=>Q a h
 | _=>False
structure FE where
 nx:Ev->PH->Prop
 rt:PV->PH->Prop
 bk:Ev->PH->Prop:=fun _ _=>False
 ct:Ev->PH->Prop:=fun _ _=>False
@[irreducible] noncomputable def Fl.W (r:Fl) (E:FE):Prop:=match r with
 | .nx δ h=>E.nx δ h
 | .rt p h=>E.rt p h
 | .bk δ h=>E.bk δ h
 | .ct δ h=>E.ct δ h
 | _=>False
@[irreducible] noncomputable def Lt (b:Ms) (E:FE) (δ:Ev) (h:PH):Prop:=(b δ h).W E
section
unseal Rs.W Fl.W Lt
variable {α β:Type} {Q:α->PH->Prop} {E:FE} {δ:Ev} {h:PH}
@[simp] theorem dN {a:α}:(Rs.ok a h).W Q=Q a h:=(rfl)
@[simp] theorem Vz:(Fl.nx δ h).W E=E.nx δ h:=(rfl)
@[simp] theorem VA {p:PV}:(Fl.rt p h).W E=E.rt p h:=(rfl)
@[simp] theorem VB:(Fl.bk δ h).W E=E.bk δ h:=(rfl)
@[simp] theorem VC:(Fl.ct δ h).W E=E.ct δ h:=(rfl)
@[simp] theorem AC {Q:β->PH->Prop} {r:Rs α} {f:α->PH->Rs β}:(r.bind f).W Q=r.W fun a h=>(f a h).W Q:=by cases r <;> rfl
@[simp] theorem NC {r:Rs α} {f:α->PH->Fl}:(r.fl f).W E=r.W fun a h=>(f a h).W E:=by cases r <;> rfl
theorem Kc {Q':α->PH->Prop} {r:Rs α} (h:r.W Q) (i:∀ a h,Q a h->Q' a h):r.W Q':=by cases r <;> first | exact i _ _ h | exact h
@[simp] theorem Vm {c:Prop} [Decidable c] {x y:Rs α}:(if c then x else y).W Q=if c then x.W Q else y.W Q:=by split <;> rfl
@[simp] theorem Vn:(Rs.bad:Rs α).W Q=False:=(rfl)
@[simp] theorem UZ:Fl.bad.W E=False:=(rfl)
theorem uG {r:Rs α} (w:r.W Q):∃ a h,r=.ok a h/\Q a h:=by
 cases r with
 | ok a h=>exact ⟨a,h,rfl,w⟩
 | exc=>exact w.elim
 | bad=>exact w.elim
variable {a b:Ms} {m ma mb mc:Me} {t ta tb:Ev->PH->Rs Bool} {g g':PV->PV->PH->Rs PV}
theorem aM:(aX a b δ h).W E=(a δ h).W { E with nx:=Lt b E }:=by
 show (match a δ h with | .nx δ1 h1=>b δ1 h1 | r=>r).W E=_
 cases a δ h <;> rfl
theorem now {b:Ms} (w:(b δ h).W E):Lt b E δ h:=w
@[simp] theorem Vo:(jU δ h).W E=E.nx δ h:=(rfl)
@[simp] theorem Vp:(UY δ h).W E=E.bk δ h:=(rfl)
@[simp] theorem Vq:(QF δ h).W E=E.ct δ h:=(rfl)
@[simp] theorem lQ {i:Nat}:(bM i m δ h).W E=(m δ h).W fun p h=>E.nx (δ.set i (some p)) h:=by simp [bM]
@[simp] theorem Vr {t:Mg}:(Hn m t δ h).W E=(m δ h).W fun p h=>∃ δ',t p δ=some δ'/\E.nx δ' h:=by
 unfold Hn;cases m δ h with
 | ok p h1=>
  show (match t p δ with | some δ'=>Fl.nx δ' h1 | none=>.bad).W E=∃ δ',t p δ=some δ'/\E.nx δ' h1
  cases t p δ <;> simp [Fl.W]
 | exc=>rfl
 | bad=>rfl
@[simp] theorem Vs:(Ei m δ h).W E=(m δ h).W fun _ h=>E.nx δ h:=by simp [Ei]
@[simp] theorem nR:(cJ m δ h).W E=(m δ h).W E.rt:=by simp [cJ]
@[simp] theorem V0:(SS δ h).W E=E.rt .non h:=(rfl)
@[simp] theorem yU:(iF t a b δ h).W E=(t δ h).W fun c h=>if c=true then (a δ h).W E else (b δ h).W E:=by
 unfold iF;rw [NC]
 congr
 funext c h
 cases c <;> simp
@[simp] theorem Pk {i:Nat}:mV i δ h=match Ax δ i with | some p=>.ok p h | none=>.bad:=(rfl)
@[simp] theorem SZ {p:PV}:mC p δ h=.ok p h:=(rfl)
@[simp] theorem Gd:aE g ma mb δ h=(ma δ h).bind fun x h1=>(mb δ h1).bind fun y h2=>g x y h2:=(rfl)
@[simp] theorem V1 {g:PV->PH->Rs PV}:mUn g ma δ h=(ma δ h).bind g:=(rfl)
@[simp] theorem U7:bZ m δ h=(m δ h).bind tru:=(rfl)
@[simp] theorem T1:SL t δ h=(t δ h).bind fun b h1=>.ok (!b) h1:=(rfl)
@[simp] theorem T2:yS ta tb δ h=(ta δ h).bind fun b h1=>if b=true then tb δ h1 else .ok false h1:=by
 unfold yS; congr 1; funext b h1; cases b <;> simp
@[simp] theorem U8:Nv ta tb δ h=(ta δ h).bind fun b h1=>if b=true then .ok true h1 else tb δ h1:=by
 unfold Nv; congr 1; funext b h1; cases b <;> simp
@[simp] theorem V2:mIf t ma mb δ h=(t δ h).bind fun b h1=>if b=true then ma δ h1 else mb δ h1:=by
 unfold mIf; congr 1; funext b h1; cases b <;> simp
noncomputable def bl2 (x:PV) (f g:Rs PV):Rs PV:=match x with
 | .bl true=>f
 | .bl false=>g
 | _=>.bad
@[simp] theorem V3 {b:Bool} {f g:Rs PV}:bl2 (.bl b) f g=if b=true then f else g:=by cases b <;> simp [bl2]
@[simp] theorem U9:K7 g g' ma mb mc δ h=(ma δ h).bind fun x h1=>(mb δ h1).bind fun y h2=>(g x y h2).bind fun z h3=>bl2 z ((mc δ h3).bind fun w h4=>(g' y w h4).bind K6) (.ok (.bl false) h3):=by
 unfold K7; first | rfl | (congr 1; funext x h1; congr 1; funext y h2; congr 1; funext z h3; cases z <;> first | rfl | (rename_i b; cases b <;> rfl))
@[simp] theorem T3 {b:Bool}:K6 (.bl b) h=.ok (.bl b) h:=(rfl)
@[simp] theorem U' {ms:Ma}:fE ms δ h=(ms δ h).bind fun xs h1=>if xs.length<=au then .ok (.tup xs) h1 else .bad:=(rfl)
@[simp] theorem Ua {ms:Ma}:AA ms δ h=(ms δ h).bind fun xs h1=>if xs.length<=au then .ok (.ref h1.length) (h1++[.lst xs]) else .bad:=(rfl)
@[simp] theorem RI:uC δ h=.ok (.ref h.length) (h++[.dK []]):=(rfl)
@[simp] theorem nU:aJ δ h=.ok [] h:=(rfl)
@[simp] theorem fY {ms:Ma}:aC m ms δ h=(m δ h).bind fun x h1=>(ms δ h1).bind fun xs h2=>.ok (x :: xs) h2:=(rfl)
@[simp] theorem mG {g:List PV->PH->Rs PV} {ms:Ma}:mCB g ms δ h=(ms δ h).bind g:=(rfl)
@[simp] theorem uH {n:Nat} {f:Fn} {ms:Ma}:bL n f ms δ h=(ms δ h).bind fun ps h1=>if ps.length=n then f ps h1 else .bad:=(rfl)
@[simp] theorem Ub:C6 δ h=.ok none h:=(rfl)
noncomputable def Ke (x:PV) (h:PH):Rs (Option Int):=match x with
 | .int i=>.ok (some i) h
 | _=>.bad
@[simp] theorem QM {i:Int}:Ke (.int i) h=.ok (some i) h:=(rfl)
@[simp] theorem Vt:mP m δ h=(m δ h).bind Ke:=(rfl)
@[simp] theorem V4 {ml mh:Mo}:mSl m ml mh δ h=(m δ h).bind fun x h1=>(ml δ h1).bind fun l h2=>(mh δ h2).bind fun u h3=>vSl x l u h3:=(rfl)
@[simp] theorem V5 {ty:PV->PH->Bool} {g:PV->List PV->PH->Rs PV} {ms:Ma}:mMt ty g m ms δ h=(m δ h).bind fun x h1=>if ty x h1=true then (ms δ h1).bind fun ps h2=>g x ps h2 else .bad:=(rfl)
@[simp] theorem ND {ty:PV->PH->Bool} {g:PV->List PV->PH->Rs PV}:NA ty g m δ h=(m δ h).bind fun x h1=>if ty x h1=true then g x [] h1 else .bad:=(rfl)
@[simp] theorem nV:au=16777216:=by rw [c3]
theorem NF {i j:Int} {h:PH} (c:(-18446744073709551616 < i/\i < 18446744073709551616)\/(-18446744073709551616 < j/\j < 18446744073709551616)):Ay (.int i) (.int j) h=.ok (.int (i*j)) h:=by
 show (if BL i j then _ else _)=_
 exact if_pos c
@[simp] theorem T4 {i j:Int} (c:(-18446744073709551616 < i/\i < 18446744073709551616)\/(-18446744073709551616 < j/\j < 18446744073709551616)):vInt BL (fun i j=>i*j) (.int i) (.int j) h=.ok (.int (i*j)) h:=NF c
@[simp] theorem Uc {i j:Int} (c:0 < j/\j < 1073741824):vInt Jp (fun i j=>i / j) (.int i) (.int j) h=.ok (.int (i / j)) h:=if_pos c
@[simp] theorem Ud {i j:Int} (c:0 < j):vInt (fun _ j=>0 < j) (fun i j=>i % j) (.int i) (.int j) h=.ok (.int (i % j)) h:=if_pos c
@[simp] theorem Ue {i j:Int} (c:0<=j/\j<=1000000/\-18446744073709551616 < i/\i < 18446744073709551616):vInt GP (fun i j=>i ^ j.toNat) (.int i) (.int j) h=.ok (.int (i ^ j.toNat)) h:=by
 show (if GP i j then _ else _)=_
 refine if_pos ⟨c.1,c.2.1,?_⟩;obtain ⟨_,_,h1,h2⟩:=c;omega
@[simp] theorem Ug {i j:Int}:Ee (.int i) (.int j) h=.ok (.int (i - j)) h:=(rfl)
@[simp] theorem Uh {i:Int}:Nq (.int i) h=.ok (.int (-i)) h:=(rfl)
@[simp] theorem yV {i j:Int}:bF (.int i) (.int j) h=.ok (.int (i+j)) h:=(rfl)
@[simp] theorem yW {x y:Str} (c:x.length+y.length<=16777216):bF (.str x) (.str y) h=.ok (.str (x++y)) h:=if_pos c
@[simp] theorem T5 {f:Int->Int->Bool} {g:List Nat->List Nat->Bool} {i j:Int}:C3 f g (.int i) (.int j) h=.ok (.bl (f i j)) h:=(rfl)
@[simp] theorem T6 {f:Int->Int->Bool} {g:List Nat->List Nat->Bool} {i j:Str}:C3 f g (.str i) (.str j) h=.ok (.bl (g i.cps.toList j.cps.toList)) h:=(rfl)
@[simp] theorem V6 {b:Bool}:tru (.bl b) h=.ok b h:=(rfl)
@[simp] theorem Ui:tru .non h=.ok false h:=(rfl)
@[simp] theorem Uj {i:Int}:tru (.int i) h=.ok (i != 0) h:=(rfl)
@[simp] theorem Uk {xs:List PV}:tru (.tup xs) h=.ok (!xs.isEmpty) h:=(rfl)
@[simp] theorem T7 {p:PV}:ofO (some p) h=.ok p h:=(rfl)
@[simp] theorem T8 {b:Bool}:ofB (some b) h=.ok (.bl b) h:=(rfl)
@[simp] theorem Ul {xs:List PV} {i:Int}:vIx (.tup xs) (.int i) h=ofO (atI xs i) h:=(rfl)
@[simp] theorem V7 {xs:List PV} {i:Int}:vIx (.fl xs) (.int i) h=ofO (atI xs i) h:=(rfl)
theorem cW {n:Nat} {xs:List PV} {i:Int} (e:h[n]?=some (.lst xs)):vIx (.ref n) (.int i) h=ofO (atI xs i) h:=by simp [vIx,aP,e]
@[simp] theorem NG {z:Str} {i:Int} (c:z.length<=16777216):vIx (.str z) (.int i) h=ofO ((atI z.cps.toList i).map fun c=>.str ⟨#[c]⟩) h:=if_pos c
@[simp] theorem T9 {xs:List PV}:dM [.tup xs] h=.ok (.int xs.length) h:=(rfl)
@[simp] theorem Um {xs:List PV}:dM [.fl xs] h=.ok (.int xs.length) h:=(rfl)
theorem cZ {n:Nat} {xs:List PV} (e:h[n]?=some (.lst xs)):dM [.ref n] h=.ok (.int xs.length) h:=by simp [dM,aP,e]
@[simp] theorem Uo {i j:Int}:Nz [.int i,.int j] h=.ok (.int (if j < i then j else i)) h:=(rfl)
@[simp] theorem Up {i j:Int}:Nw [.int i,.int j] h=.ok (.int (if j > i then j else i)) h:=(rfl)
@[simp] theorem T' {i:Int} {c:String}:Ny [.int i,.ty c] h=if c∈known then .ok (.bl (C9 "int" c)) h else .bad:=(rfl)
@[simp] theorem Ta {i:Str} {c:String}:Ny [.str i,.ty c] h=if c∈known then .ok (.bl (C9 "str" c)) h else .bad:=(rfl)
@[simp] theorem Uq {i:Bool} {c:String}:Ny [.bl i,.ty c] h=if c∈known then .ok (.bl (C9 "bool" c)) h else .bad:=(rfl)
@[simp] theorem Tb {i:List PV} {c:String}:Ny [.tup i,.ty c] h=if c∈known then .ok (.bl (C9 "tuple" c)) h else .bad:=(rfl)
theorem sU {n:Nat} {xs:List PV} (e:h[n]?=some (.lst xs)):isL (.ref n) h=true:=by simp [isL,dF,e]
theorem iX {n:Nat} {xs:List PV} {p:PV} (e:h[n]?=some (.lst xs)) (c:xs.length < 16777216):onL eX (.ref n) [p] h=.ok .non (h.set n (.lst (xs++[p]))):=by simp [onL,dF,e,eX,c]
theorem NH {α:Type} {xs:List α} {i:Int} (h0:0<=i) (h1:i < xs.length):atI xs i=xs[i.toNat]?:=by
 unfold atI ixN;rw [if_pos h0,if_pos h1]; rfl
theorem AD {g:PH->Bool} {tg:Mg} {body:Ms} {E:FE} (I:Nat->Ev->PH->Prop):∀ (xs:List PV) (k:Nat) (δ:Ev) (h:PH),I k δ h->
  (∀ i x δ h,k<=i->xs[i - k]?=some x->I i δ h->g h=true/\∃ δ1,tg x δ=some δ1/\(body δ1 h).W { nx:=I (i+1),ct:=I (i+1),rt:=E.rt,bk:=E.nx })->
  (∀ δ h,I (k+xs.length) δ h->g h=true/\E.nx δ h)->(fX g tg body xs δ h).W E
 | [],k,δ,h,i0,_,fin=>by
  obtain ⟨h1,h2⟩:=fin δ h i0;simp [fX,h1,h2]
 | x :: xs,k,δ,h,i0,step,fin=>by
  obtain ⟨h1,δ1,h2,h3⟩:=step k x δ h (ai _) (by simp) i0;have go:∀ δ2 h2,I (k+1) δ2 h2->(fX g tg body xs δ2 h2).W E:=fun δ2 h2 i2=>
   AD I xs (k+1) δ2 h2 i2 (fun i y δ h hk hy=>step i y δ h (by omega) (by
    have:i - k=(i - (k+1))+1:=by omega
    rw [this,ft]; exact hy)) (fun δ h hi=>fin δ h (by
    have e:k+(x :: xs).length=k+1+xs.length:=by simp; omega
    rw [e]; exact hi))
  unfold fX;rw [if_pos h1,h2]
  show Fl.W (match body δ1 h with | .nx δ2 h2=>fX g tg body xs δ2 h2 | .ct δ2 h2=>fX g tg body xs δ2 h2 | .bk δ2 h2=>.nx δ2 h2 | r=>r) E
  cases e:body δ1 h with
  | nx δ2 h2=>rw [e] at h3; exact go δ2 h2 h3
  | ct δ2 h2=>rw [e] at h3; exact go δ2 h2 h3
  | bk δ2 h2=>rw [e] at h3; exact h3
  | rt p h2=>rw [e] at h3; exact h3
  | exc=>rw [e] at h3; exact h3
  | bad=>rw [e] at h3; exact h3
theorem Kf {ms:Ma} {i:Nat} {body:Ms} {j:Int} (I:Nat->Ev->PH->Prop) (e:ms δ h=.ok [.int j] h) (hj:-4611686018427387904<=j/\j < 4611686018427387904) (h0:I 0 δ h)
  (step:∀ (q:Nat) δ h,(q:Int) < j->I q δ h->(body (δ.set i (some (.int q))) h).W { nx:=I (q+1),ct:=I (q+1),rt:=E.rt,bk:=E.nx })
  (fin:∀ δ h,I j.toNat δ h->E.nx δ h):(mF (jG ms) (gN i) body δ h).W E:=by
 unfold mF jG;rw [e];have hj':-(2 ^ 62)<=j/\j < 2 ^ 62:=hj;simp only [Rs.bind_ok,Ga,if_pos hj',Rs.fl_ok];refine AD I _ 0 δ h h0 (fun q x δ h _ hx hi=>?_) (fun δ h hi=>⟨rfl,fin δ h (by rw [eY,Nat.zero_add] at hi; exact hi)⟩);have hq:q < j.toNat:=by
  have:=(ab.mp hx).1;rw [eY] at this;omega
 rw [Nat.sub_zero,uD _ _ _ hq] at hx;cases hx
 refine ⟨rfl,_,rfl,?_⟩;rw [Int.zero_add];exact step q δ h (by omega) hi
theorem Kg {m:Me} {tg:Mg} {body:Ms} {xs:List PV} (I:Nat->Ev->PH->Prop) (e:m δ h=.ok (.tup xs) h\/m δ h=.ok (.fl xs) h) (h0:I 0 δ h)
  (step:∀ (q:Nat) x δ h,xs[q]?=some x->I q δ h->∃ δ1,tg x δ=some δ1/\(body δ1 h).W { nx:=I (q+1),ct:=I (q+1),rt:=E.rt,bk:=E.nx })
  (fin:∀ δ h,I xs.length δ h->E.nx δ h):(mF (bH m) tg body δ h).W E:=by
 have go:(fX (fun _=>true) tg body xs δ h).W E:=AD I _ 0 δ h h0 (fun q x δ h _ hx hi=>⟨rfl,step q x δ h (by simpa using hx) hi⟩) (fun δ h hi=>⟨rfl,fin δ h (by simpa using hi)⟩)
 unfold mF bH;rcases e with e | e <;> rw [e] <;> exact go
theorem AE {m:Me} {tg:Mg} {body:Ms} {n:Nat} {xs:List PV} {h1:PH} (I:Nat->Ev->PH->Prop) (e:m δ h=.ok (.ref n) h1) (hn:h1[n]?=some (.lst xs)) (h0:I 0 δ h1)
  (keep:∀ q δ h,q<=xs.length->I q δ h->h[n]?=some (.lst xs))
  (step:∀ (q:Nat) x δ h,xs[q]?=some x->I q δ h->∃ δ1,tg x δ=some δ1/\(body δ1 h).W { nx:=I (q+1),ct:=I (q+1),rt:=E.rt,bk:=E.nx })
  (fin:∀ δ h,I xs.length δ h->E.nx δ h):(mF (bH m) tg body δ h).W E:=by
 have hk:∀ {h:PH},h[n]?=some (.lst xs)->lM n xs h=true:=fun {h} e=>by
  have e3:aP h n=some xs:=by unfold aP; rw [e]
  unfold lM; rw [e3]; exact PV.beqs_self xs
 unfold mF bH;rw [e];have e2:ofSeq (.ref n) h1=.ok ⟨xs,lM n xs⟩ h1:=by
  have e3:aP h1 n=some xs:=by unfold aP; rw [hn]
  unfold ofSeq; simp only [e3]
 rw [Rs.bind_ok,e2,Rs.fl_ok];refine AD I _ 0 δ h1 h0 (fun q x δ h _ hx hi=>?_) (fun δ h hi=>?_)
 ·have hx':xs[q]?=some x:=by simpa using hx
  have:=(ab.mp hx').1;exact ⟨hk (keep q δ h (by omega) hi),step q x δ h hx' hi⟩
 ·have hi':I xs.length δ h:=by simpa using hi
  exact ⟨hk (keep _ δ h (ai _) hi'),fin δ h hi'⟩
theorem fG {N:Nat} {body:Ms} {args:List PV} {Q:PV->PH->Prop} (w:(body (args.map some++c4 (N - args.length) none) h).W { nx:=fun _ h=>Q .non h,rt:=Q }):(mFn N body args h).W Q:=by
 unfold mFn;cases e:body (args.map some++c4 (N - args.length) none) h with
 | nx δ h'=>rw [e] at w; exact w
 | rt p h'=>rw [e] at w; exact w
 | _=>rw [e] at w; exact w.elim
@[simp] theorem Vu {i:Nat} {p:PV}:gN i p δ=some (δ.set i (some p)):=(rfl)
@[simp] theorem V8 {n:Nat} {u:Mgs} {ps:List PV}:gTp n u (.tup ps) δ=if ps.length=n then u ps δ else none:=(rfl)
@[simp] theorem V9 {t:Mg} {u:Mgs} {p:PV} {r:List PV}:gCn t u (p :: r) δ=(t p δ).bind (u r):=(rfl)
@[simp] theorem V':gNl [] δ=some δ:=(rfl)
end
noncomputable def Ext (h h':PH):Prop:=∀ (n:Nat) (o:MO),h[n]?=some o->h'[n]?=some o
theorem Ext.refl (h:PH):Ext h h:=fun _ _ e=>e
theorem Ext.trans {h h1 h2:PH} (a:Ext h h1) (b:Ext h1 h2):Ext h h2:=fun n o e=>b n o (a n o e)
theorem Ext.app (h g:PH):Ext h (h++g):=fun n o e=>by
 rw [dh (ab.mp e).1]; exact e
theorem Ext.len {h h':PH} (e:Ext h h'):h.length<=h'.length:=by
 rcases Nat.lt_or_ge h'.length h.length with z | z
 ·have:h[h'.length]?=some h[h'.length]:=by simp [z]
  have:=(ab.mp (e _ _ this)).1;omega
 ·exact z
theorem aK {h:PH} {o:MO}:(h++[o])[h.length]?=some o:=by simp
theorem dU {h:PH} {n:Nat} {o o':MO} (e:h[n]?=some o):(h.set n o')[n]?=some o':=fh (ab.mp e).1
theorem eL {h:PH} {n m:Nat} {o o':MO} (e:h[m]?=some o) (d:n≠m):(h.set n o')[m]?=some o:=by rw [a8 d]; exact e
noncomputable def PV.pl:Nat->PV->Bool
 | _,.non=>true
 | _,.int _=>true
 | _,.str _=>true
 | n+1,.tup xs=>xs.all (PV.pl n)
 | _,_=>false
theorem NI {x:PV} {xs:List PV} {d:D} {ds:List D} (h1:x.d=some d) (h2:PV.ds xs=some ds):PV.ds (x :: xs)=some (d :: ds):=by simp [PV.ds,h1,h2]
theorem Tc {xs:List PV} {ds:List D} (h:PV.ds xs=some ds):(PV.tup xs).d=some (.tup ds):=by simp [PV.d,h]
theorem eM {xs:List PV} {d:D} (h:(PV.tup xs).d=some d):∃ ds,PV.ds xs=some ds/\d=.tup ds:=by
 unfold PV.d at h;split at h
 ·rename_i ds e; cases h; exact ⟨ds,e,rfl⟩
 ·cases h
theorem jV {x:PV} {xs:List PV} {ds:List D} (h:PV.ds (x :: xs)=some ds):∃ d r,x.d=some d/\PV.ds xs=some r/\ds=d :: r:=by
 unfold PV.ds at h;split at h
 ·rename_i d r e1 e2; cases h; exact ⟨d,r,e1,e2,rfl⟩
 ·cases h
theorem AF:∀ (n:Nat) (x:PV),x.pl n=true->∃ d,x.d=some d/\d.depth<=n:=by
 intro n
 induction n with
 | zero=>
  intro x h;cases x <;> first | exact ⟨_,rfl,ai _⟩ | (simp [PV.pl] at h)
 | succ n ih=>
  intro x h;cases x with
  | tup xs=>
   have h:xs.all (PV.pl n)=true:=h;have many:∀ (xs:List PV),xs.all (PV.pl n)=true->∃ ds,PV.ds xs=some ds/\D.depths ds<=n:=by
    intro xs
    induction xs with
    | nil=>intro _; exact ⟨[],rfl,b8 _⟩
    | cons x xs ihx=>
     intro h;simp only [jq,cm] at h;obtain ⟨d,h1,h2⟩:=ih x h.1;obtain ⟨ds,h3,h4⟩:=ihx h.2;refine ⟨d :: ds,NI h1 h3,?_⟩
     show max d.depth (D.depths ds)<=n
     omega
   obtain ⟨ds,h1,h2⟩:=many xs h;refine ⟨.tup ds,Tc h1,?_⟩
   show D.depths ds+1<=n+1
   omega
  | _=>first | exact ⟨_,rfl,b8 _⟩ | (simp [PV.pl] at h)
theorem Pl:∀ (n:Nat) (x y:PV) (d e:D),x.pl n=true->y.pl n=true->x.d=some d->y.d=some e->eqD d e=decide (x=y):=by
 intro n
 induction n with
 | zero=>
  intro x y d e hx hy h1 h2;cases x <;> first | (simp [PV.pl] at hx; done) | skip
  all_goals cases h1
  all_goals cases y <;> first | (simp [PV.pl] at hy; done) | skip
  all_goals cases h2
  all_goals simp only [eqD]
  all_goals rw [ip]
  all_goals simp
 | succ n ih=>
  intro x y d e hx hy h1 h2;have lists:∀ (xs ys:List PV) (ds es:List D),xs.all (PV.pl n)=true->ys.all (PV.pl n)=true->PV.ds xs=some ds->PV.ds ys=some es->eE ds es=decide (xs=ys):=by
   intro xs
   induction xs with
   | nil=>
    intro ys ds es _ _ h1 h2;cases h1
    cases ys with
    | nil=>cases h2; rfl
    | cons y ys=>obtain ⟨d,r,_,_,rfl⟩:=jV h2; simp [eE]
   | cons x xs ihx=>
    intro ys ds es hx hy h1 h2;obtain ⟨d,r,g1,g2,rfl⟩:=jV h1;simp only [jq,cm] at hx;cases ys with
    | nil=>cases h2; simp [eE]
    | cons y ys=>
     obtain ⟨e,q,g3,g4,rfl⟩:=jV h2;simp only [jq,cm] at hy;simp only [eE,ih x y d e hx.1 hy.1 g1 g3,ihx ys r q hx.2 hy.2 g2 g4];rw [ip];simp
  cases x with
  | tup xs=>
   obtain ⟨ds,g1,rfl⟩:=eM h1;cases y with
   | tup ys=>
    obtain ⟨es,g2,rfl⟩:=eM h2;simp only [eqD,lists xs ys ds es hx hy g1 g2];rw [ip];simp
   | non=>cases h2; simp [eqD]
   | int j=>cases h2; simp [eqD]
   | str j=>cases h2; simp [eqD]
   | _=>simp [PV.pl] at hy
  | non=>
   cases h1
   cases y with
   | tup ys=>obtain ⟨es,g2,rfl⟩:=eM h2; simp [eqD]
   | non=>cases h2; simp [eqD]
   | int j=>cases h2; simp [eqD]
   | str j=>cases h2; simp [eqD]
   | _=>simp [PV.pl] at hy
  | int i=>
   cases h1
   cases y with
   | tup ys=>obtain ⟨es,g2,rfl⟩:=eM h2; simp [eqD]
   | non=>cases h2; simp [eqD]
   | int j=>cases h2; simp only [eqD]; rw [ip]; simp
   | str j=>cases h2; simp [eqD]
   | _=>simp [PV.pl] at hy
  | str i=>
   cases h1
   cases y with
   | tup ys=>obtain ⟨es,g2,rfl⟩:=eM h2; simp [eqD]
   | non=>cases h2; simp [eqD]
   | int j=>cases h2; simp [eqD]
   | str j=>cases h2; simp only [eqD]; rw [ip]; simp
   | _=>simp [PV.pl] at hy
  | _=>simp [PV.pl] at hx
section
variable {x y:PV} {h:PH}
theorem Ge (hx:x.pl 40=true) (hy:y.pl 40=true):iU x y h=some (decide (x=y)):=by
 obtain ⟨d,h1,h2⟩:=AF 40 x hx;obtain ⟨e,h3,h4⟩:=AF 40 y hy;unfold iU;rw [h1,h3];simp only [h2,if_true,Pl 40 x y d e hx hy h1 h3]
theorem Kh (hx:x.pl 40=true) (hy:y.pl 40=true):vEq x y h=.ok (.bl (decide (x=y))) h:=by unfold vEq; rw [Ge hx hy]; rfl
theorem Ki (hx:x.pl 40=true) (hy:y.pl 40=true):vNe x y h=.ok (.bl (!decide (x=y))) h:=by unfold vNe; rw [Ge hx hy]; rfl
@[simp] theorem Ur {i j:Int}:vEq (.int i) (.int j) h=.ok (.bl (decide (i=j))) h:=by rw [Kh rfl rfl]; congr 2; simp
@[simp] theorem Us {i j:Int}:vNe (.int i) (.int j) h=.ok (.bl (!decide (i=j))) h:=by rw [Ki rfl rfl]; congr 3; simp
@[simp] theorem Ut {i j:Str}:vEq (.str i) (.str j) h=.ok (.bl (decide (i=j))) h:=by rw [Kh rfl rfl]; congr 2; simp
theorem Ca {n m:Nat} {xs ys:List PV} (e1:h[n]?=some (.lst xs)) (e2:h[m]?=some (.lst ys)) (hx:xs.all (PV.pl 39)=true) (hy:ys.all (PV.pl 39)=true):iU (.ref n) (.ref m) h=some (decide (xs=ys)):=by
 have e3:cY (.ref n) h=some xs:=by unfold cY aP; simp only [e1]
 have e4:cY (.ref m) h=some ys:=by unfold cY aP; simp only [e2]
 have hx':(PV.tup xs).pl 40=true:=hx;have hy':(PV.tup ys).pl 40=true:=hy;obtain ⟨d,h1,h2⟩:=AF 40 _ hx';obtain ⟨e,h3,h4⟩:=AF 40 _ hy';obtain ⟨ds,g1,rfl⟩:=eM h1;obtain ⟨es,g2,rfl⟩:=eM h3;have h5:=Pl 40 _ _ _ _ hx' hy' h1 h3;have h2':D.depths ds+1<=40:=h2;have h5':eE ds es=decide (xs=ys):=by
  have:eE ds es=decide (PV.tup xs=PV.tup ys):=h5;rw [this,ip]; simp
 unfold iU;have n1:(PV.ref n).d=none:=rfl;rw [n1];simp only [e3,e4,g1,g2,show D.depths ds<=40 by omega,if_true,h5']
theorem Gf {n m:Nat} {xs ys:List PV} (e1:h[n]?=some (.lst xs)) (e2:h[m]?=some (.lst ys)) (hx:xs.all (PV.pl 39)=true) (hy:ys.all (PV.pl 39)=true):vNe (.ref n) (.ref m) h=.ok (.bl (!decide (xs=ys))) h:=by unfold vNe; rw [Ca e1 e2 hx hy]; rfl
end
end L2
namespace L2
section
variable {α:Type} {a b c d e f g:α} {r:List α}
theorem AG {xs:List α} {v:α} (i:Nat) (h:xs[i]?=some v):atI xs (i:Int)=some v:=dQ h
@[simp] theorem VD:atI (a :: r) 0=some a:=AG 0 rfl
@[simp] theorem VE:atI (a :: b :: r) 1=some b:=AG 1 rfl
@[simp] theorem VF:atI (a :: b :: c :: r) 2=some c:=AG 2 rfl
theorem NJ {xs:List α} {i:Int} (h:xs≠[]):∃ v,atI xs (i % (xs.length:Int))=some v/\v∈xs:=by
 have h0:0 < xs.length:=jv.mpr h;obtain ⟨v,h1,h2⟩:=Qr (xs:=xs) (i:=i % (xs.length:Int)) (gj _ (by omega)) (gq _ (by omega));exact ⟨v,h1,cy h2⟩
end
theorem Kj {x:PV} (hx:x.pl 40=true) (h:PH):vNe x x h=.ok (.bl false) h:=by rw [Ki hx hx,decide_eq_true rfl]; rfl
end L2
namespace L2
open PySem PySem.Spec PyProof.Rows PySem.SeqAt
open PySem.AutoSeq1 (wpAny_loadPart')
open PySem.MeetsSeq PySem.MeetsSeq2 PySem.MeetsSeq3
noncomputable def Td (A:Around) (s:Shared) (v u:Value) (b:Bool):Prop:=∀ (prog:Program) (w:World) (E:Value->Shared->Prop) (Q:Value->Shared->Prop),Q (.bool b) s->wpAny (model prog w) A (richCompare .Lt v u) Q E s
noncomputable def Te (A:Around) (s:Shared) (v u:Value) (d e:D):Prop:=EqAt A s v u (eqD d e)/\(eqD d e=false->∀ b,ltD d e=some b->Td A s v u b)
noncomputable abbrev yX (A:Around) (s:Shared):List Value->List Value->List D->List D->Prop:=fun vs us ds es=>vs.length=ds.length/\us.length=es.length/\∀ (j:Nat) v u d e,vs[j]?=some v->us[j]?=some u->ds[j]?=some d->es[j]?=some e->Te A s v u d e
theorem yX.tail {A:Around} {s:Shared} {v u:Value} {vs us:List Value} {d e:D} {ds es:List D} (h:yX A s (v :: vs) (u :: us) (d :: ds) (e :: es)):Te A s v u d e/\yX A s vs us ds es:=
 ⟨h.2.2 0 v u d e rfl rfl rfl rfl,by have:=h.1; simpa using this,by have:=h.2.1; simpa using this,fun j v u d e h1 h2 h3 h4=>h.2.2 (j+1) v u d e (by simpa using h1) (by simpa using h2) (by simpa using h3) (by simpa using h4)⟩
theorem AH (l b:Addr) (items items2:Array Value) (n n2:Nat) (dd dd2:Option Addr) (sl sl2:Array (Option Value)) (ds es:List D) (c:Bool) (hc:Ao ds es=some c):
  Meets (Builtin.«tuple.__lt__» ⟨[.ref l,.ref b],[]⟩)
   (fun A R s=>s.heap.get? l=some { cls:=.type "tuple",dict:=dd,data:=.seq items n,slots:=sl }/\s.heap.get? b=some { cls:=.type "tuple",dict:=dd2,data:=.seq items2 n2,slots:=sl2 }/\
    yX A.in1 s items.toList items2.toList ds es/\R (.ok (.ret (.bool c))) s):=
 .of_wp fun prog w A R s h=>by
  obtain ⟨hp,g,d,tk,os⟩:=s; obtain ⟨hl,hb,hit,h⟩:=h;have f2:=AutoSeq1.sub_tuple_tuple;have z1:items.size=ds.length:=by rw [<- hit.1]; simp
  have z2:items2.size=es.length:=by rw [<- hit.2.1]; simp
  wp_walk using wpAny_loadPart' hl,wpAny_loadPart' hb,wpAny_forIn_list _ (fun rest b s'=>b.1=none/\s'=⟨hp,g,d,tk,os⟩/\∃ (vs ws:List Value) (ns' ms':List D),rest=vs.zip ws/\
   yX A.in1 ⟨hp,g,d,tk,os⟩ vs ws ns' ms'/\ns'.length+items2.size=ms'.length+items.size/\Ao ns' ms'=some c) _
  case turn=>
   rintro ⟨y,x⟩ rest b s' ⟨hb',rfl,vs,ws,ns',ms',hz,hvi,hlen,hR⟩;cases vs with
   | nil=>rw [List.zip_nil_left] at hz; cases hz
   | cons v vs=>
    cases ws with
    | nil=>rw [List.zip_nil_right] at hz; cases hz
    | cons u ws=>
     rw [List.zip_cons_cons] at hz;injection hz with hyx hrest;injection hyx with hy hx;subst hy hx;cases ns' with
     | nil=>have:=hvi.1; simp at this
     | cons a ns'=>
      cases ms' with
      | nil=>have:=hvi.2.1; simp at this
      | cons e ms'=>
       obtain ⟨⟨h1,h2⟩,ht⟩:=yX.tail hvi;simp only [dk] at hlen;simp only [Ao] at hR;refine aa (h1 prog w _ _ ?_);cases q:eqD a e with
       | true=>
        rw [q,if_pos rfl] at hR
        wp_walk
        exact ⟨rfl,rfl,_,_,_,_,hrest,ht,by omega,hR⟩
       | false=>
        rw [q,if_neg bu] at hR;have hri:=h2 q c hR prog w
        wp_walk using hri
        exact ⟨_,rfl,by simpa using h⟩
  case fin=>
   rintro ⟨b1,b2⟩ s' ⟨hb',rfl,vs,ws,ns',ms',hz,hvi,hlen,hR⟩;simp only at hb';subst hb';have hv:c=decide (items.size < items2.size):=by
    cases ns' with
    | nil=>
     cases ms' with
     | nil=>
      simp only [List.length_nil] at hlen;simp only [Ao] at hR;cases hR
      exact (decide_eq_false (by omega)).symm
     | cons e ms'=>
      simp only [List.length_nil,dk] at hlen;simp only [Ao] at hR;cases hR
      exact (decide_eq_true (by omega)).symm
    | cons a ns'=>
     cases ms' with
     | nil=>
      simp only [List.length_nil,dk] at hlen;simp only [Ao] at hR;cases hR
      exact (decide_eq_false (by omega)).symm
     | cons e ms'=>
      exfalso;cases vs with
      | nil=>have:=hvi.1; simp at this
      | cons v vs=>
       cases ws with
       | nil=>have:=hvi.2.1; simp at this
       | cons u ws=>rw [List.zip_cons_cons] at hz; cases hz
   rw [hv] at h
   wp_walk
   exact ⟨_,rfl,by simpa [Builtin.Tuple.tupleCompareSizes] using h⟩
  case h=>
   exact ⟨rfl,rfl,items.toList,items2.toList,ds,es,rfl,hit,by omega,hc⟩
section
variable {X:Cx} {pins:List (Addr×Obj)} {σ:St} {H:Hp} {s:Shared}
theorem Va (I:Inv X pins σ H s):∀ (n:Nat) (d e:D) (A:Around) (x y:V) (v u:Value) (b:Bool),d.depth<=n->A.units+n < cLine->Rep X.K H d x->Rep X.K H e y->RelV x v->RelV y u->ltD d e=some b->Td A s v u b:=by
 intro n
 induction n with
 | zero=>
  intro d e A x y v u b hd hu hx hy rx ry hb;cases d with
  | tup ds=>exact absurd hd (by show ¬ D.depths ds+1<=0; omega)
  | int i=>
   cases e with
   | int j=>
    cases hx; cases hy;obtain ⟨t,rfl⟩:=rx;obtain ⟨t',rfl⟩:=ry;simp only [ltD] at hb;cases hb
    exact fun prog w E Q q=>(PyProof.Rows.lt_int q:wpAny (model prog w) A (cz .Lt _ _) Q E s)
   | _=>simp [ltD] at hb
  | str i=>
   cases e with
   | str j=>
    cases hx; cases hy;obtain ⟨t,rfl⟩:=rx;obtain ⟨t',rfl⟩:=ry;simp only [ltD] at hb;cases hb
    exact fun prog w E Q q=>(PyProof.Rows.lt_str q:wpAny (model prog w) A (cz .Lt _ _) Q E s)
   | _=>simp [ltD] at hb
  | _=>cases e <;> simp [ltD] at hb
 | succ n ih=>
  intro d e A x y v u b hd hu hx hy rx ry hb
  by_cases h0:d.depth<=n
  ·exact ih d e A x y v u b h0 (by omega) hx hy rx ry hb
  ·cases d with
   | tup ds=>
    cases e with
    | tup es=>
     have hds:D.depths ds<=n:=by have:D.depths ds+1<=n+1:=hd; omega
     obtain ⟨a,vs,rfl,q,r⟩:=hx;cases rx
     obtain ⟨its,rv,p,_⟩:=I.tuple q;obtain ⟨a',vs',rfl,q',r'⟩:=hy;cases ry
     obtain ⟨its',rv',p',_⟩:=I.tuple q';have hb':Ao ds es=some b:=by simpa [ltD] using hb
     obtain ⟨⟨cls,dd,data,sl⟩,ho,hc,m,hdt⟩:=id p;obtain ⟨⟨cls2,dd2,data2,sl2⟩,ho2,hc2,m2,hd2⟩:=id p';simp only at hc hdt hc2 hd2;subst hc hdt hc2 hd2;intro prog w E Q hq;refine richCompare_meets_room (op:=.Lt) ⟨_,ho,rfl⟩ ⟨_,ho2,rfl⟩ PySem.F.slot_tuple_lt PySem.F.entry_tuple_lt (PySem.F.args_tuple_lt_2 _ _) (AH a a' its.toArray its'.toArray m m2 dd dd2 sl sl2 ds es b hb')
      ⟨ho,ho2,⟨?_,?_,?_⟩,show Value.bool b≠Value.notImplemented/\Q (.bool b) s from ⟨(fun x=>nomatch x),hq⟩⟩ (by omega)
     ·have l1:=r.length;have l3:=rv.length
      show its.length=ds.length
      omega
     ·have l1:=r'.length;have l3:=rv'.length
      show its'.length=es.length
      omega
     ·intro j v u d e h1 h2 h3 h4;obtain ⟨xv,hxv,hrx⟩:=r.at h3;obtain ⟨yv,hyv,hry⟩:=r'.at h4;obtain ⟨xu,hxu,hru⟩:=rv.get hxv;obtain ⟨yu,hyu,hru'⟩:=rv'.get hyv;have e1:v=xu:=by
       have:its[j]?=some v:=h1;rw [hxu] at this;exact (bg this).symm
      have e2:u=yu:=by
       have:its'[j]?=some u:=h2;rw [hyu] at this;exact (bg this).symm
      subst e1 e2;have hdj:=D.depths_le h3;refine ⟨JJ I (n:=n) (by omega) ?_ hrx hry hru hru',fun _ b hb=>ih d e _ xv yv v u b (by omega) ?_ hrx hry hru hru' hb⟩
      all_goals (show A.units+1+n < cLine; omega)
    | _=>simp [ltD] at hb
   | _=>exact absurd (b8 n) h0
end
variable {C:MC} {k:Nat} {X:Cx}
noncomputable def NK (x y:PV):Option Bool:=match x.d,y.d with
 | some d,some e=>if d.depth<=40 then ltD d e else none
 | _,_=>none
noncomputable def uI:PV->PV->PH->Rs PV:=fun x y h=>match x,y with
 | .tup xs,.tup ys=>ofB (NK (.tup xs) (.tup ys)) h
 | x,y=>vLt x y h
theorem QN (hu:X.A.units+64 < cLine) (K:af) (hK:X.K=K):OpR X (cz .Lt) (fun x y H Q=>∃ d e b,Rep K H d x/\Rep K H e y/\d.depth<=40/\ltD d e=some b/\Q (.bl b) H):=by
 subst hK;intro pins s σ H x y v u Q I rx ry h;obtain ⟨d,e,b,hx,hy,hd,hb,q⟩:=h;exact Va I 40 d e X.A x y v u b hd (by omega) hx hy rx ry hb X.prog X.w X.xe _ ⟨.bl _,H,I,rfl,q⟩
theorem Ej:OpS C k X (cz .Lt) uI:=fun c=>((QN c.hu64 C.K c.K).or (UW c)).imp fun x y H Q h=>by
 obtain ⟨φ,h,p,q,rh,rx,ry,po⟩:=h;unfold uI at po;split at po
 ·obtain ⟨b,e,po⟩:=po.ofB;unfold NK at e;split at e
  ·rename_i d e' h1 h2;split at e
   ·rename_i hd;exact .inl ⟨d,e',b,rx.rep h1,ry.rep h2,hd,e,po.val rh rfl⟩
   ·cases e
  ·cases e
 ·exact .inr ⟨φ,h,p,q,rh,rx,ry,po⟩
section
variable {h:PH}
@[simp] theorem RJ {i j:Int}:uI (.int i) (.int j) h=.ok (.bl (decide (i < j))) h:=(rfl)
@[simp] theorem RK {i j:Str}:uI (.str i) (.str j) h=.ok (.bl (decide (i.cps.toList < j.cps.toList))) h:=(rfl)
noncomputable def ltL (f:PV->PV->Option Bool):List PV->List PV->Option Bool
 | [],[]=>some false
 | [],_ :: _=>some true
 | _ :: _,[]=>some false
 | x :: xs,y :: ys=>if x=y then ltL f xs ys else f x y
noncomputable def ltP:Nat->PV->PV->Option Bool
 | _,.int a,.int b=>some (decide (a < b))
 | _,.str a,.str b=>some (decide (a.cps.toList < b.cps.toList))
 | n+1,.tup xs,.tup ys=>ltL (ltP n) xs ys
 | _,_,_=>none
end
end L2
namespace L2
open PySem PySem.Spec PyProof.Rows
variable {C:MC} {k:Nat} {X:Cx}
theorem Ek {M:Program×World} {A:Around} {E:Value->Shared->Prop} {s:Shared} {l:Addr} {items:Array Value} {Q:Value->Shared->Prop} (hl:s.heap.IsList l items)
  (h:∀ s₂:Shared,s₂={ s with heap:=s.heap.push { cls:=.type "list_iterator",data:=.fields #[.ref l,.int 0 0] } }->
   (s₂.heap.IsListIter s.heap.objs.size l 0/\s₂.heap.IsList l items)->(∀ b∈[s.heap.objs.size,l],b < s₂.heap.objs.size)->l≠s.heap.objs.size->Q (.ref s.heap.objs.size) s₂):
  wpAny (model M.1 M.2) A (pyIter (.ref l)) Q E s:=by
 have hlt:l < s.heap.objs.size:=by obtain ⟨_,e,_⟩:=hl; exact aw e
 refine km hl (h _ rfl ⟨⟨_,ay _ rfl,rfl,rfl⟩,hl.push _⟩ (fun b hb=>?_) (a9 hlt))
 show b < (s.heap.push _).objs.size
 rw [jz];rcases bc.mp hb with rfl | hb
 ·exact Nat.lt_succ_self _
 ·rcases bc.mp hb with rfl | hb
  ·exact ki hlt
  ·cases hb
theorem Hr:Cxt C k X->bT X (.builtin "sum") (fun xs H Q=>∃ (p:Addr) (ns:List Int),xs=[.ref p]/\SqL C.K H p (ns.map V.int)/\Q (.int ns.sum) H):=fun c=>by
 intro pins s σ H xs us Q I r h;obtain ⟨p,ns,rfl,hq,q⟩:=h;obtain ⟨u,rfl,ru⟩:=vals1 r;cases ru
 rw [<- c.K] at hq;obtain ⟨its,rv,pl,hz⟩:=I.list hq;have hi:IntsAre its ns:=intsAre_of rv;obtain ⟨ys,hy⟩:=hi.allInts.items;have hl:=pl.isList;rw [hy] at hl;refine sum_intListG (I.ok.hd c.calm) hl fun h' tk t' hk=>?_;have e:preSum (numAt ys) ys.size=ns.sum:=by
  have e1:=preSum_eq ys ys.size;rw [List.take_of_length_le (by simp)] at e1;rw [e1,<- nums_intItems,<- hy];have:=hi.numsOf;rw [show its.toArray.toList=its from rfl,this]
 rw [e];exact ⟨.int ns.sum,H,I.kept hk,⟨_,rfl⟩,q⟩
theorem Hs (hc:X.calm=true) (K:af) (hK:X.K=K):bT X (.builtin "all") (fun xs H Q=>∃ (p:Addr) (bs:List Bool),xs=[.ref p]/\SqL K H p (bs.map V.bl)/\Q (.bl (bs.all id)) H):=by
 subst hK;intro pins s σ H xs us Q I r h;obtain ⟨p,bs,rfl,hq,q⟩:=h;obtain ⟨u,rfl,ru⟩:=vals1 r;cases ru
 obtain ⟨its,rv,pl,hz⟩:=I.list hq;have hlen:=rv.length;rw [ae] at hlen;refine call_all_walk (Ek (M:=(X.prog,X.w)) pl.isList fun s₂ e st hfp hlI=>?_);subst e;refine ⟨_,_,_,_,_,_,fun i=>(bs[i]?).getD true,rfl,Walks.list (A:=X.A.in1) (I.ok.hd hc) _ p hlI its.toArray,st,?_,fun h' tk hk=>?_⟩
 ·intro i v s' Q' E' hP hQ;have hP':its[i]?=some v:=by simpa using hP
  obtain ⟨hi,_⟩:=ab.mp hP';have hb:i < bs.length:=by omega
  obtain ⟨u,hu,ru⟩:=rv.get (show (bs.map V.bl)[i]?=some (.bl bs[i]) by simp [hb]);rw [hP'] at hu;cases hu
  cases ru
  refine ib ?_;have:(bs[i]?).getD true=bs[i]:=by simp [hb]
  rw [<- this];exact hQ
 ·have e:((ax its.toArray.size).all fun i=>(bs[i]?).getD true)=bs.all id:=by
   have hs:its.toArray.size=bs.length:=by simp [hlen]
   rw [hs,ip,cg,cg];constructor
   ·intro h b hb;obtain ⟨i,hi,rfl⟩:=List.mem_iff_getElem.mp hb;have:=h i (d4.mpr hi);simpa [hi] using this
   ·intro h i hi;have hi':=d4.mp hi;have:=h bs[i] (ee hi');simpa [hi'] using this
  rw [e];exact ⟨.bl _,H,I.kept (old_kept hk),rfl,q⟩
noncomputable def rS:List PV->Option (List Int)
 | []=>some []
 | .int i :: r=>(rS r).map (i :: ·)
 | _ :: _=>none
noncomputable def Ht:List PV->Option (List Bool)
 | []=>some []
 | .bl i :: r=>(Ht r).map (i :: ·)
 | _ :: _=>none
theorem sV {φ:List Addr} {H:Hp}:∀ {xs:List PV} {vs:List V} {ns:List Int},RVs C φ H xs vs->rS xs=some ns->vs=ns.map V.int
 | [],[],_,_,e=>by cases e; rfl
 | x :: xs,v :: vs,ns,⟨h,r⟩,e=>by
  cases x with
  | int i=>
   cases h
   simp only [rS,bf] at e;obtain ⟨m,e,rfl⟩:=e;rw [sV r e]; rfl
  | _=>cases e
 | [],_ :: _,_,h,_=>h.elim
 | _ :: _,[],_,h,_=>h.elim
theorem Kk {φ:List Addr} {H:Hp}:∀ {xs:List PV} {vs:List V} {ns:List Bool},RVs C φ H xs vs->Ht xs=some ns->vs=ns.map V.bl
 | [],[],_,_,e=>by cases e; rfl
 | x :: xs,v :: vs,ns,⟨h,r⟩,e=>by
  cases x with
  | bl i=>
   cases h
   simp only [Ht,bf] at e;obtain ⟨m,e,rfl⟩:=e;rw [Kk r e]; rfl
  | _=>cases e
 | [],_ :: _,_,h,_=>h.elim
 | _ :: _,[],_,h,_=>h.elim
theorem yY (ns:List Int):rS (ns.map PV.int)=some ns:=by
 induction ns with
 | nil=>rfl
 | cons n ns ih=>simp [rS,ih]
theorem Kl (ns:List Bool):Ht (ns.map PV.bl)=some ns:=by
 induction ns with
 | nil=>rfl
 | cons n ns ih=>simp [Ht,ih]
noncomputable def Km:List PV->PH->Rs PV:=fun xs h=>match xs with
 | [x]=>match cY x h with
  | some ys=>match rS ys with
   | some ns=>.ok (.int ns.sum) h
   | none=>.bad
  | none=>.bad
 | _=>.bad
noncomputable def Kn:List PV->PH->Rs PV:=fun xs h=>match xs with
 | [x]=>match cY x h with
  | some ys=>match Ht ys with
   | some ns=>.ok (.bl (ns.all id)) h
   | none=>.bad
  | none=>.bad
 | _=>.bad
theorem Tf:gM C k X (.builtin "sum") Km:=fun c=>(Hr c).imp fun vs H Q h=>by
 obtain ⟨φ,h,ps,rh,rv,po⟩:=h;unfold Km at po;split at po
 ·obtain ⟨v,rfl,rx⟩:=rv.one;split at po
  ·rename_i ys e;split at po
   ·rename_i ns en;obtain ⟨a,vs,rfl,sa,ra⟩:=dR rh rx e;rw [sV ra en] at sa;exact ⟨a,ns,rfl,sa,po.val rh rfl⟩
   ·exact po.elim
  ·exact po.elim
 ·exact po.elim
theorem Tg:gM C k X (.builtin "all") Kn:=fun c=>(Hs c.calm C.K c.K).imp fun vs H Q h=>by
 obtain ⟨φ,h,ps,rh,rv,po⟩:=h;unfold Kn at po;split at po
 ·obtain ⟨v,rfl,rx⟩:=rv.one;split at po
  ·rename_i ys e;split at po
   ·rename_i ns en;obtain ⟨a,vs,rfl,sa,ra⟩:=dR rh rx e;rw [Kk ra en] at sa;exact ⟨a,ns,rfl,sa,po.val rh rfl⟩
   ·exact po.elim
  ·exact po.elim
 ·exact po.elim
theorem Cb {h:PH} {n:Nat} {ns:List Int} (e:h[n]?=some (.lst (ns.map PV.int))):Km [.ref n] h=.ok (.int ns.sum) h:=by
 have e1:cY (.ref n) h=some (ns.map PV.int):=by unfold cY aP; simp only [e]
 unfold Km; simp only [e1,yY]
theorem Ko {h:PH} {n:Nat} {ns:List Bool} (e:h[n]?=some (.lst (ns.map PV.bl))):Kn [.ref n] h=.ok (.bl (ns.all id)) h:=by
 have e1:cY (.ref n) h=some (ns.map PV.bl):=by unfold cY aP; simp only [e]
 unfold Kn; simp only [e1,Kl]
open Classical in
noncomputable def Hu:PV->PV->PH->Rs PV:=fun x y h=>match x,y with
 | .str z,.int n=>if z.length<=16/\-(2 ^ 63)<=n/\n<=1000 then .ok (.str (Txt.mul z n)) h else .bad
 | _,_=>.bad
theorem Pm:OpS C k X (fe .Mult) Hu:=fun c=>by
 intro pins s σ H x y v u Q I rx ry h;obtain ⟨φ,h,p,q,rh,rp,rq,po⟩:=h;unfold Hu at po;split at po
 ·cases rp; cases rq;obtain ⟨t,rfl⟩:=rx;obtain ⟨t',rfl⟩:=ry;obtain ⟨⟨h1,h2,h3⟩,po⟩:=po.ite;refine PySem.W.KXi.mul rfl h1 h2 (by omega) fun t'' tk _ _=>⟨.str _,H,I.tok _,⟨_,rfl⟩,po.val rh rfl⟩
 ·exact po.elim
end L2
namespace L2
open PySem
section
variable {h:PH} {lo hi:Option Int}
@[simp] theorem Uu {xs:List PV}:vSl (.tup xs) lo hi h=.ok (.tup (iW xs lo hi)) h:=(rfl)
@[simp] theorem Vb {xs:List PV}:vSl (.fl xs) lo hi h=.ok (.ref h.length) (h++[.lst (iW xs lo hi)]):=(rfl)
theorem sW {n:Nat} {xs:List PV} (e:h[n]?=some (.lst xs)):vSl (.ref n) lo hi h=.ok (.ref h.length) (h++[.lst (iW xs lo hi)]):=by
 have e3:aP h n=some xs:=by unfold aP; rw [e]
 unfold vSl; simp only [e3]
@[simp] theorem Vc {a b:Bool}:vIs (.bl a) (.bl b) h=.ok (.bl (a == b)) h:=(rfl)
@[simp] theorem RL {a b:Bool}:uA (.bl a) (.bl b) h=.ok (.bl (!(a == b))) h:=(rfl)
@[simp] theorem Uv {x:PV}:vIs x .non h=.ok (.bl (jT x)) h:=(rfl)
@[simp] theorem QO {x:PV}:uA x .non h=.ok (.bl (!jT x)) h:=(rfl)
end
section
variable {δ:Ev} {h h1:PH} {js:List (Option Nat)} {tg:Mg} {tst:Ev->PH->Rs Bool} {elt:Me} {g:PH->Bool} {n:Nat}
theorem nW {δ0:Ev} {Q:PV->PH->Prop} (I:Nat->PH->Prop):∀ (xs:List PV) (k:Nat) (h:PH),I k h->
  (∀ i x h,k<=i->xs[i - k]?=some x->I i h->g h=true/\∃ δ1,tg x δ0=some δ1/\(tst δ1 h).W fun b h'=>if b=true then (elt δ1 h').W fun p h''=>∃ ys,h''[n]?=some (.lst ys)/\ys.length < 16777216/\I (i+1) (h''.set n (.lst (ys++[p]))) else I (i+1) h')->
  (∀ h,I (k+xs.length) h->g h=true/\Q (.ref n) h)->(jH g tg tst elt δ0 n xs h).W Q
 | [],k,h,i0,_,fin=>by
  obtain ⟨h1,h2⟩:=fin h i0;simp [jH,h1,h2]
 | x :: xs,k,h,i0,step,fin=>by
  obtain ⟨h1,δ1,h2,h3⟩:=step k x h (ai _) (by simp) i0;have go:∀ h2,I (k+1) h2->(jH g tg tst elt δ0 n xs h2).W Q:=fun h2 i2=>
   nW I xs (k+1) h2 i2 (fun i y h hk hy=>step i y h (by omega) (by
    have:i - k=(i - (k+1))+1:=by omega
    rw [this,ft]; exact hy)) (fun h hi=>fin h (by
    have e:k+(x :: xs).length=k+1+xs.length:=by simp; omega
    rw [e]; exact hi))
  unfold jH;rw [if_pos h1,h2]
  show (Rs.bind (tst δ1 h) _).W Q
  rw [AC];refine Kc h3 fun b h' hb=>?_;cases b with
  | false=>exact go h' (by simpa using hb)
  | true=>
   show (Rs.bind (elt δ1 h') _).W Q
   rw [AC];refine Kc (show (elt δ1 h').W _ from by simpa using hb) fun p h'' hp=>?_
   obtain ⟨ys,e,hz,hi⟩:=hp;have e':dF h'' n=some ys:=by unfold dF; rw [e]
   simp [e',hz];exact go _ hi
theorem qB {α:Type} {mi:Mi} {ys:List α} {emb:α->PV} (f:α->Option PV) (e:mi δ h=.ok ⟨ys.map emb,g⟩ h1) (hg:∀ h,Ext h1 h->g h=true) (hz:ys.length<=16777216)
  (step:∀ y∈ys,∃ δ1,tg (emb y) (cB js δ)=some δ1/\∀ h,Ext h1 h->match f y with
   | none=>tst δ1 h=.ok false h
   | some p=>tst δ1 h=.ok true h/\elt δ1 h=.ok p h):bE js mi tg tst elt δ h=.ok (.ref h1.length) (h1++[.lst (ys.filterMap f)]):=by
 have w:(bE js mi tg tst elt δ h).W fun p h'=>p=.ref h1.length/\h'=h1++[.lst (ys.filterMap f)]:=by
  unfold bE;rw [e,Rs.bind_ok];refine nW (fun i h'=>h'=h1++[.lst ((ys.take i).filterMap f)]) (ys.map emb) 0 _ (by simp) (fun i x h' _ hx hi=>?_) (fun h' hi=>?_)
  ·subst hi;have hx:(ys.map emb)[i]?=some x:=by simpa using hx
   rw [aj] at hx;obtain ⟨y,hy,rfl⟩:=bf.mp hx;have hil:=(ab.mp hy).1;obtain ⟨δ1,ht,hs⟩:=step y (cy hy);have hs:=hs (h1++[.lst ((ys.take i).filterMap f)]) (Ext.app _ _);have htk:ys.take (i+1)=ys.take i++[y]:=by rw [ig,hy]; rfl
   refine ⟨hg _ (Ext.app _ _),δ1,ht,?_⟩;cases ef:f y with
   | none=>
    rw [ef] at hs;rw [hs];simp [htk,ef]
   | some p=>
    rw [ef] at hs;rw [hs.1];simp [hs.2];refine ⟨?_,by simp [htk,ef]⟩;have:=List.length_filterMap_le f (ys.take i);rw [d9] at this;omega
  ·subst hi;simp;exact hg _ (Ext.app _ _)
 obtain ⟨p,h',e,rfl,rfl⟩:=uG w;exact e
theorem dW {m:Me} {xs:List PV} (e:m δ h=.ok (.ref n) h1) (hn:h1[n]?=some (.lst xs)):bH m δ h=.ok ⟨xs,lM n xs⟩ h1:=by
 unfold bH;have e3:aP h1 n=some xs:=by unfold aP; rw [hn]
 rw [e,Rs.bind_ok];unfold ofSeq; simp only [e3]
theorem cR {xs:List PV} (hn:h1[n]?=some (.lst xs)):∀ h,Ext h1 h->lM n xs h=true:=fun h hx=>by
 have e3:aP h n=some xs:=by unfold aP; rw [hx _ _ hn]
 unfold lM; rw [e3]; exact PV.beqs_self xs
theorem Kr {m:Me} {xs:List PV} (e:m δ h=.ok (.tup xs) h1):bH m δ h=.ok ⟨xs,fun _=>true⟩ h1:=by
 unfold bH;rw [e]; rfl
theorem dX {α:Type} {m:Me} {ys:List α} {emb:α->PV} (f:α->Option PV) (e:m δ h=.ok (.ref n) h1) (hn:h1[n]?=some (.lst (ys.map emb))) (hz:ys.length<=16777216)
  (step:∀ y∈ys,∃ δ1,tg (emb y) (cB js δ)=some δ1/\∀ h,Ext h1 h->match f y with
   | none=>tst δ1 h=.ok false h
   | some p=>tst δ1 h=.ok true h/\elt δ1 h=.ok p h):bE js (bH m) tg tst elt δ h=.ok (.ref h1.length) (h1++[.lst (ys.filterMap f)]):=
 qB f (dW e hn) (cR hn) hz step
theorem yZ {α:Type} {m:Me} {ys:List α} {emb:α->PV} (f:α->Option PV) (e:m δ h=.ok (.tup (ys.map emb)) h1) (hz:ys.length<=16777216)
  (step:∀ y∈ys,∃ δ1,tg (emb y) (cB js δ)=some δ1/\∀ h,Ext h1 h->match f y with
   | none=>tst δ1 h=.ok false h
   | some p=>tst δ1 h=.ok true h/\elt δ1 h=.ok p h):bE js (bH m) tg tst elt δ h=.ok (.ref h1.length) (h1++[.lst (ys.filterMap f)]):=
 qB f (Kr e) (fun _ _=>rfl) hz step
theorem Cc (lo:Int):∀ n,upTo lo n=(ax n).map (fun (i:Nat)=>PV.int (lo+(i:Int)))
 | 0=>rfl
 | n+1=>by
  rw [upTo,Cc (lo+1) n,List.range_succ_eq_map,a7,bq]
  congr 1
  ·simp
  ·apply dw;intro a _;simp only [Function.comp_def]
   congr 1
   omega
theorem uJ {ms:Ma} {j:Int} (f:Nat->Option PV) (e:ms δ h=.ok [.int j] h1) (hj:-4611686018427387904<=j/\j < 16777216)
  (step:∀ i:Nat,(i:Int) < j->∃ δ1,tg (.int i) (cB js δ)=some δ1/\∀ h,Ext h1 h->match f i with
   | none=>tst δ1 h=.ok false h
   | some p=>tst δ1 h=.ok true h/\elt δ1 h=.ok p h):bE js (jG ms) tg tst elt δ h=.ok (.ref h1.length) (h1++[.lst ((ax j.toNat).filterMap f)]):=by
 refine qB (emb:=fun i:Nat=>.int ((0:Int)+i)) (g:=fun _=>true) f ?_ (fun _ _=>rfl) (by simp; omega) (fun i hi=>?_)
 ·unfold jG;rw [e];have hj':-(2 ^ 62)<=j/\j < 2 ^ 62:=⟨hj.1,by omega⟩;simp only [Rs.bind_ok,Ga,if_pos hj'];rw [Cc]
 ·have hi':=d4.mp hi;rw [Int.zero_add];exact step i (by omega)
theorem filterMap_some {α β:Type} (f:α->β) (xs:List α):xs.filterMap (fun x=>some (f x))=xs.map f:=by
 induction xs with
 | nil=>rfl
 | cons x xs ih=>simp [ih]
end
end L2
namespace L2
open PySem PySem.Spec PyProof.Rows
section
variable {X:Cx} {pins:List (Addr×Obj)} {σ:St} {H:Hp} {s:Shared} {C:MC} {φ:List Addr}
mutual
theorem Ks (I:Inv X pins σ H s) (hK:X.K=C.K):∀ (n:Nat) {p:PV} {v:V} {u:Value},p.ky n=true->RV C φ H p v->RelV v u->HR s.heap p u
 | _,.int i,v,u,_,r,ru=>by cases r; exact ru
 | _,.str i,v,u,_,r,ru=>by cases r; exact ru
 | n+1,.tup ps,v,u,hk,r,ru=>by
  obtain ⟨a,vs,rfl,q,rs⟩:=r;cases ru
  rw [<- hK] at q;obtain ⟨its,rv,p,_⟩:=I.tuple q;exact ⟨a,its,rfl,p,Gg I hK n (cg.mp hk) rs rv⟩
 | 0,.tup _,_,_,hk,_,_=>by cases hk
 | n,.non,_,_,hk,_,_=>by cases n <;> cases hk
 | n,.bl _,_,_,hk,_,_=>by cases n <;> cases hk
 | n,.ref _,_,_,hk,_,_=>by cases n <;> cases hk
 | n,.ty _,_,_,hk,_,_=>by cases n <;> cases hk
 | n,.fl _,_,_,hk,_,_=>by cases n <;> cases hk
theorem Gg (I:Inv X pins σ H s) (hK:X.K=C.K):∀ (n:Nat) {ps:List PV} {vs:List V} {us:List Value},(∀ p∈ps,p.ky n=true)->RVs C φ H ps vs->aN vs us->HRs s.heap ps us
 | _,[],[],us,_,_,ru=>by cases ru; trivial
 | n,p :: ps,v :: vs,us,hk,r,ru=>by
  cases ru with
  | cons h t=>exact ⟨Ks I hK n (hk p ak) r.1 h,Gg I hK n (fun q hq=>hk q (aq _ hq)) r.2 t⟩
 | _,[],_ :: _,_,_,r,_=>r.elim
 | _,_ :: _,[],_,_,r,_=>r.elim
end
noncomputable abbrev uK:List (PV×Addr×V)->List (PV×Addr×Value)->Prop:=Paired fun p q=>p.1=q.1/\p.2.1=q.2.1/\RelV p.2.2 q.2.2
noncomputable def HD (C:MC) (φ:List Addr) (H:Hp) (X:Cx) (s:Shared) (a:Addr) (kvs:List (PV×PV)):Prop:=
 ∃ ks xs,RKd C φ H kvs ks/\uK ks xs/\xs.length<=au/\(a == fg)=false/\s.heap.DictOfH (jR X.prog X.w) a xs
noncomputable def cM (h:PH) (n:Nat):Option (List (PV×PV)):=match h[n]? with
 | some (.dD kvs)=>some kvs
 | some (.dK [])=>some []
 | _=>none
noncomputable def PV.isKt:PV->Bool
 | .tup xs=>(PV.tup xs).ky 6
 | _=>false
theorem nX {p:PV} (h:p.isKt=true):p.ky 6=true:=by cases p <;> first | exact h | cases h
theorem kQ {p:PV} {v:V} (h:p.isKt=true) (r:RV C φ H p v):∃ b,v=.ref b:=by
 cases p <;> first | (obtain ⟨b,_,e,_⟩:=r; exact ⟨b,e⟩) | cases h
theorem uL {h:PH} {n:Nat} {a:Addr} {kvs:List (PV×PV)} (I:Inv X pins σ H s) (hK:X.K=C.K) (hw:X.w=C.w) (rh:RH C φ H h) (ha:φ[n]?=some a) (e:cM h n=some kvs):HD C φ H X s a kvs/\Mut (H a)/\BU (H a):=by
 unfold cM at e;split at e
 ·rename_i kv hk;cases e
  obtain ⟨ks,hH,r⟩:=rh.at' n a _ ha hk;have hO:cO X.prog X.w H s.heap a (dDO C.w a ks):=I.hok a _ hH;obtain ⟨⟨hz,hm,xs,rx,o,es,ep,h1,h2,h3,h4,h5⟩,_⟩:=hO;refine ⟨⟨ks,xs,r,rx,by rw [<- eu rx]; exact hz,hm,o,es,ep,h1,h2,h3,?_,?_,h5⟩,by rw [hH]; exact jy,by rw [hH]; exact jy⟩
  ·rw [h4,<- hw]; rfl
  ·have all:∀ {l:List (PV×PV)} {m:List (PV×Addr×V)} {z:List (PV×Addr×Value)},RKd C φ H l m->uK m z->∀ x∈z,(jR X.prog X.w).is s.heap x.1 x.2.1:=by
    intro l m z q;unfold RKd at q
    induction q generalizing z with
    | nil=>intro rz x hx; cases rz; cases hx
    | cons hq t ih=>
     intro rz x hx;cases rz with
     | cons hz' tz=>
      rcases bc.mp hx with e | hx
      ·subst e;refine ⟨?_,?_⟩
       ·rw [<- hz'.1,<- hq.1]; exact hq.2.1
       ·rw [<- hz'.1,<- hq.1,<- hz'.2.1]; exact Ks I hK 6 hq.2.1 hq.2.2.1 rfl
      ·exact ih tz x hx
   exact all r rx
 ·rename_i hk;cases e
  obtain ⟨ks,hH,r⟩:=rh.at' n a _ ha hk;have:ks=[]:=by cases r; rfl
  subst this;obtain ⟨z,hd,vs,rel,o,es,ep,h1,h2,h3,h4,h5,h6⟩:=BP I.hok hH;have:vs=[]:=by cases rel; rfl
  subst this;refine ⟨⟨[],[],.nil,.nil,b8 _,hd,o,es,ep,h1,h2,h3,?_,(fun x hx=>nomatch hx),List.nodup_nil⟩,by rw [hH]; exact jy,by rw [hH]; exact jy⟩;cases he:es.toList with
  | nil=>rfl
  | cons y ys=>rw [he] at h5; cases h5
 ·cases e
theorem HD.val {a:Addr} {kvs:List (PV×PV)} {ks:List (PV×Addr×V)} {xs:List (PV×Addr×Value)} (r:RKd C φ H kvs ks) (rx:uK ks xs) (k:PV):match aV kvs k,(atKey xs k).map (·.2) with
  | some p,some u=>∃ v,RelV v u/\RV C φ H p v
  | none,none=>True
  | _,_=>False:=by
 unfold RKd at r
 induction r generalizing xs with
 | nil=>cases rx; trivial
 | @cons p q ps qs h t ih=>
  cases rx with
  | @cons q' x qs' xs' hx tx=>
   obtain ⟨pk,pv⟩:=p
   by_cases e:pk=k
   ·have e':x.1=k:=hx.1.symm.trans (h.1.symm.trans e);have b:atKey (x :: xs') k=some x.2:=by simp [atKey,ij,e']
    rw [b];unfold aV;rw [if_pos e];exact ⟨_,hx.2.2,h.2.2.2⟩
   ·have e':¬ x.1=k:=fun z=>e (h.1.trans (hx.1.trans z));have b:atKey (x :: xs') k=atKey xs' k:=by simp [atKey,ij,e']
    rw [b];unfold aV;rw [if_neg e];exact ih tx
noncomputable def dO {κ:Type} [DecidableEq κ] (kvs:List (κ×PV)) (k:κ) (p:PV):List (κ×PV):=if (aV kvs k).isSome then kvs.map (fun kv=>if kv.1=k then (kv.1,p) else kv) else kvs++[(k,p)]
theorem HD.replace {a:Addr} {kvs:List (PV×PV)} {ks:List (PV×Addr×V)} {xs:List (PV×Addr×Value)} (r:RKd C φ H kvs ks) (rx:uK ks xs) (k:PV) {p:PV} {v:V} {u:Value} (rp:RV C φ H p v) (ru:RelV v u):
  ∃ ks',RKd C φ H (kvs.map fun kv=>if kv.1=k then (kv.1,p) else kv) ks'/\uK ks' (xs.map (putAt k u)):=by
 unfold RKd at r
 induction r generalizing xs with
 | nil=>cases rx; exact ⟨[],.nil,.nil⟩
 | @cons pp q ps qs h t ih=>
  cases rx with
  | @cons q' x qs' xs' hx tx=>
   obtain ⟨ks',r1,r2⟩:=ih tx
   by_cases e:pp.1=k
   ·refine ⟨(q.1,q.2.1,v) :: ks',.cons ?_ r1,.cons ?_ r2⟩
    ·simp only [if_pos e]; exact ⟨h.1,h.2.1,h.2.2.1,rp⟩
    ·unfold putAt; rw [if_pos (hx.1.symm.trans (h.1.symm.trans e))]; exact ⟨hx.1,hx.2.1,ru⟩
   ·refine ⟨q :: ks',.cons ?_ r1,.cons ?_ r2⟩
    ·simp only [if_neg e]; exact h
    ·unfold putAt; rw [if_neg fun z=>e (h.1.trans (hx.1.trans z))]; exact hx
theorem HD.put {a b:Addr} {kvs:List (PV×PV)} {ks:List (PV×Addr×V)} {xs:List (PV×Addr×Value)} (r:RKd C φ H kvs ks) (rx:uK ks xs) {k:PV} (hk:k.ky 6=true) (rk:RV C φ H k (.ref b)) {p:PV} {v:V} {u:Value} (rp:RV C φ H p v) (ru:RelV v u):
  ∃ ks',RKd C φ H (dO kvs k p) ks'/\uK ks' (storedH xs k b u):=by
 have hv:=HD.val (a:=b) r rx k;unfold dO storedH;cases e1:aV kvs k with
 | some p0=>
  rw [e1] at hv;cases e2:atKey xs k with
  | none=>rw [e2] at hv; exact hv.elim
  | some z=>exact HD.replace (a:=b) r rx k rp ru
 | none=>
  rw [e1] at hv;cases e2:atKey xs k with
  | some z=>rw [e2] at hv; exact hv.elim
  | none=>exact ⟨ks++[(k,b,v)],Paired.snoc r ⟨rfl,hk,rk,rp⟩,Paired.snoc rx ⟨rfl,rfl,ru⟩⟩
theorem HD.isSome {kvs:List (PV×PV)} {ks:List (PV×Addr×V)} {xs:List (PV×Addr×Value)} (r:RKd C φ H kvs ks) (rx:uK ks xs) (k:PV):(atKey xs k).isSome=(aV kvs k).isSome:=by
 have hv:=HD.val (a:=0) r rx k;cases e1:aV kvs k with
 | some p0=>
  rw [e1] at hv;cases e2:atKey xs k with
  | none=>rw [e2] at hv; exact hv.elim
  | some z=>rfl
 | none=>
  rw [e1] at hv;cases e2:atKey xs k with
  | some z=>rw [e2] at hv; exact hv.elim
  | none=>rfl
theorem uM (I:Inv X pins σ H s) (hK:X.K=C.K) {p:PV} {b:Addr} (hk:p.isKt=true) (r:RV C φ H p (.ref b)):(jR X.prog X.w).is s.heap p b:=⟨nX hk,Ks I hK 6 (nX hk) r rfl⟩
end
section
variable {C:MC} {k:Nat} {X:Cx}
theorem Cxt.room6 (c:Cxt C k X):(jR X.prog X.w).room X.A.in1:=by
 have:=c.hu64
 show X.A.units+1+6 < cLine
 omega
noncomputable def jM (x y:PV) (h:PH):Option (Option PV):=match y with
 | .ref n=>if x.isKt=true then (cM h n).map fun kvs=>aV kvs x else none
 | _=>none
noncomputable def Kt (C:MC):V->V->Hp->(List Addr->Option PV->Prop)->Prop:=fun x y H R=>∃ φ h p n a kvs,RH C φ H h/\RV C φ H p x/\y=.ref a/\φ[n]?=some a/\cM h n=some kvs/\p.isKt=true/\R φ (aV kvs p)
theorem uN {φ:List Addr} {H:Hp} {h:PH} {p q:PV} {x y:V} {o:Option PV} {R:List Addr->Option PV->Prop} (rh:RH C φ H h) (rx:RV C φ H p x) (ry:RV C φ H q y) (e:jM p q h=some o) (r:R φ o):Kt C x y H R:=by
 unfold jM at e;cases q with
 | ref n=>
  obtain ⟨a,rfl,ha⟩:=ry;dsimp only at e;split at e
  ·rename_i hk;cases e1:cM h n with
   | none=>rw [e1] at e; cases e
   | some kvs=>rw [e1] at e; cases e; exact ⟨φ,h,p,n,a,kvs,rh,rx,rfl,ha,e1,hk,r⟩
  ·cases e
 | _=>cases e
theorem El (c:Cxt C k X):OpR X (cz .NotIn) (fun x y H Q=>Kt C x y H fun _ o=>Q (.bl (!o.isSome)) H):=fun pins s σ H x y v u Q I rx ry h=>by
 obtain ⟨φ,h,p,n,a,kvs,rh,rp,rfl,ha,ht,hk,q⟩:=h;cases ry
 obtain ⟨b,rfl⟩:=kQ hk rp;cases rx
 obtain ⟨⟨ks,xs,r,rx',hz,hm,dd⟩,_⟩:=uL I c.K c.w rh ha ht;refine wpAny_notIn_heap c.room6 (uM I c.K hk rp) hm dd ?_;rw [HD.isSome r rx' p];exact ⟨.bl _,H,I.tok _,rfl,q⟩
noncomputable def VG:PV->PV->PH->Rs PV:=fun x y h=>match jM x y h with
 | some o=>.ok (.bl o.isSome) h
 | none=>vIn x y h
noncomputable def iY:PV->PV->PH->Rs PV:=fun x y h=>match jM x y h with
 | some o=>.ok (.bl (!o.isSome)) h
 | none=>K5 x y h
theorem Ku:OpS C k X (cz .NotIn) iY:=fun c=>((Nt c).or (El c)).imp fun x y H Q h=>by
 obtain ⟨φ,h,p,q,rh,rx,ry,po⟩:=h;unfold iY at po;cases e:jM p q h with
 | none=>rw [e] at po; exact .inl ⟨φ,h,p,q,rh,rx,ry,po⟩
 | some o=>rw [e] at po; exact .inr (uN rh rx ry e (po.val rh rfl))
theorem Vd (c:Cxt C k X):IxR X (fun x y H Q=>Kt C y x H fun φ o=>∃ p,o=some p/\∀ v:V,RV C φ H p v->Q v H):=by
 intro value slice pins s σ H x y v u Q I rx ry h hs;obtain ⟨φ,h,p,n,a,kvs,rh,rp,rfl,ha,ht,hk,p',ep,q⟩:=h;cases rx
 obtain ⟨b,rfl⟩:=kQ hk rp;cases ry
 obtain ⟨⟨ks,xs,r,rx',hz,hm,dd⟩,_⟩:=uL I c.K c.w rh ha ht;have hT:=dd.typeIs;have hv:=HD.val (a:=a) r rx' p;rw [ep] at hv;cases e2:atKey xs p with
 | none=>rw [e2] at hv; exact hv.elim
 | some z=>
  rw [e2] at hv;obtain ⟨v',rv1,rv2⟩:=hv;unfold subscriptTail;refine aa ?_;rw [getitemInPython_of_ne hT.not_modules];refine aa (wpAny_specialOf hT PySem.F.slot_dict_getitem.lookup ?_);have fin:wpAny (model X.prog X.w) X.A (subscripted slice false (.ref a) (.ref b)) (fun r s₃=>wpAny (model X.prog X.w) X.A (letTemporaryGo value (.ref a) r >>= fun _=>pure r) (EP X pins σ Q) X.xe s₃) X.xe s:=by
   rw [hs];exact wpAny_operating (wpAny_getItem_heap c.room6 (uM I c.K hk rp) dd e2 (aa (wpAny_letTemporaryGo (ag ⟨v',H,I.tok _,rv1,q v' rv2⟩))))
  first
   | exact ag (aa fin)
   | exact aa (ag (aa fin))
   | exact aa fin
noncomputable def vAt:PV->PV->PH->Rs PV:=fun x y h=>match jM y x h with
 | some (some p)=>.ok p h
 | some none=>.bad
 | none=>vIx x y h
theorem bS {a b:Expr} {ma mb:Me} {pos:Pos} (ha:SE C k X a ma) (hb:SE C k X b mb) (hs:FY b:=by intro _ _; rfl):SE C k X (.Subscript a b pos) (aE vAt ma mb):=fun c=>
 (Sg ((ixC c.hu C.K c.K).or (Vd c)) (ha c) (hb c) hs).imp fun σ H Q h=>by
  obtain ⟨φ,δ,h,rh,re,p⟩:=G4 h;refine ⟨φ,δ,h,rh,re,p.imp ?_⟩;rintro v H1 ⟨φ,δ,h,rh,re,p⟩;refine ⟨φ,δ,h,rh,re,p.imp ?_⟩;rintro u H2 ⟨φ,h,p,q,rh,rx,ry,po⟩;unfold vAt at po;cases e:jM q p h with
  | none=>rw [e] at po; exact .inl (SN ⟨φ,h,p,q,rh,rx,ry,po⟩)
  | some o=>
   rw [e] at po;cases o with
   | none=>exact po.elim
   | some r=>exact .inr (uN rh ry rx e ⟨r,rfl,fun v' rv=>po.val rh rv⟩)
noncomputable def sN (x y v:PV) (h:PH):Option PH:=match x with
 | .ref n=>match nO y,h[n]? with
  | some key,some (.dK kvs)=>if kvs.length < au then some (h.set n (.dK (dO kvs key v))) else none
  | some _,_=>none
  | none,_=>if y.isKt=true then (match cM h n with
   | some kvs=>if kvs.length < au then some (h.set n (.dD (dO kvs y v))) else none
   | none=>none) else none
 | _=>none
theorem Em {φ:List Addr} {H:Hp} {κ:Type} [DecidableEq κ] {kvs:List (κ×PV)} {ks:List (κ×V)} (r:RKv C φ H kvs ks) (a:κ):(aV kvs a).isSome=(iB ks a).isSome:=by
 have:=pY r a;cases e1:aV kvs a with
 | none=>
  cases e2:iB ks a with
  | none=>rfl
  | some v=>rw [e1,e2] at this; exact this.elim
 | some p=>
  cases e2:iB ks a with
  | none=>rw [e1,e2] at this; exact this.elim
  | some v=>rfl
theorem uO {φ:List Addr} {H:Hp} {κ:Type} [DecidableEq κ] {kvs:List (κ×PV)} {ks:List (κ×V)} (r:RKv C φ H kvs ks) (a:κ) {p:PV} {v:V} (rp:RV C φ H p v):RKv C φ H (dO kvs a p) (putK ks a v):=by
 unfold dO putK;rw [tL,Em r a];split
 ·rename_i hx;clear hx;unfold RKv at r ⊢
  induction r with
  | nil=>exact .nil
  | @cons p' q' ps qs h t ih=>
   refine .cons ?_ ih
   by_cases e:p'.1=a
   ·have e':q'.1=a:=h.1.symm.trans e;simp only [if_pos e,if_pos e'];exact ⟨h.1,rp⟩
   ·have e':¬ q'.1=a:=fun z=>e (h.1.trans z);simp only [if_neg e,if_neg e'];exact h
 ·exact Paired.snoc r ⟨rfl,rp⟩
theorem zA {φ:List Addr} {H:Hp} {h h':PH} {px py pv:PV} {x y v:V} (c:Cxt C k X) (rh:RH C φ H h) (rx:RV C φ H px x) (ry:RV C φ H py y) (rv:RV C φ H pv v) (e:sN px py pv h=some h') {pins:List (Addr×Obj)} {σ:St} {s:Shared} {xu yu vu:Value}
  {Q:Unit->Shared->Prop} (I:Inv X pins σ H s) (rxu:RelV x xu) (ryu:RelV y yu) (rvu:RelV v vu) (q:∀ s' H',Inv X pins σ H' s'->Kp H H'->RH C φ H' h'->Q () s'):wpAny (model X.prog X.w) X.A (setItem xu yu vu) Q X.xe s:=by
 unfold sN at e;cases px with
 | ref n=>
  obtain ⟨a,rfl,ha⟩:=rx;cases rxu
  dsimp only at e;split at e
  ·rename_i key kvs hkey hk;split at e
   ·rename_i hl;cases e
    obtain ⟨ks,hH,rk⟩:=rh.at' n a _ ha hk;have ey:y=kV key:=tZ ry hkey;subst ey;have hl':ks.length < au:=by rw [<- eu rk]; exact hl
    refine GY c.hu I (.k hH hl') ryu rvu fun s' I'=>q s' _ I' (Kp.dK hH) ?_;refine rh.write ha (by rw [hH]; exact jy) ⟨_,bJ,?_⟩;exact (uO rk key rv).mono av (Kp.dK hH)
   ·cases e
  ·cases e
  ·split at e
   ·rename_i hk;split at e
    ·rename_i kvs ht;split at e
     ·rename_i hl;cases e
      obtain ⟨b,rfl⟩:=kQ hk ry;cases ryu
      obtain ⟨⟨ks,xs,r,rx',hz,hm,dd⟩,mu,nt⟩:=uL I c.K c.w rh ha ht;refine wpAny_setItem_heap (hsz:=hz) c.room6 (uM I c.K hk ry) dd fun h' dd' hs=>?_;obtain ⟨ks',r1,r2⟩:=HD.put (a:=a) r rx' (nX hk) ry rv rvu;obtain ⟨o,es,ep,hq,h2,h3,h4,_,h5⟩:=dd';have hl2:ks'.length<=au:=by
       have e1:=eu r1;have e2:(dO kvs py pv).length<=kvs.length+1:=by
        unfold dO;split
        ·rw [ae]; omega
        ·simp
       omega
      refine q _ (upd H a (dDO C.w a ks')) (nE I mu hs ⟨o,hq⟩ ⟨⟨hl2,hm,_,r2,o,es,ep,hq,h2,h3,?_,h5⟩,⟨o,hq⟩,?_⟩) (Kp.upd nt) ?_
      ·rw [h4,<- c.w]; rfl
      ·rintro g1 g2 ⟨z1,z2,ws,z3,o',es',ep',z4,z5⟩ keep;exact ⟨z1,z2,ws,z3,o',es',ep',keep _ z4,z5⟩
      ·exact rh.write ha nt ⟨ks',bJ,RKd.mono av (Kp.upd nt) r1⟩
     ·cases e
    ·cases e
   ·cases e
 | _=>cases e
end
end L2
namespace L2
open PySem PySem.Spec PyProof.Rows
noncomputable def MtG (C:MC) (k:Nat) (X:Cx) (T:String) (ty:PV->PH->Bool) (id:String) (g:PV->List PV->PH->Rs PV):Prop:=Cxt C k X->MtR X id (rM C g)/\
 ∀ pins s σ H φ h p x v,Inv X pins σ H s->RH C φ H h->RV C φ H p x->RelV x v->ty p h=true->s.TypeIs v T/\∀ a,v=.ref a->∃ ob,s.heap.get? a=some ob/\ob.dict=none
section
variable {C:MC} {k:Nat} {X:Cx}
section
variable {o e:Expr} {es:List Expr} {mo:Me} {ms:Ma} {name:Str} {apos cpos:Pos} {T id:String} {ty:PV->PH->Bool} {g:PV->List PV->PH->Rs PV}
theorem QP (pa:PlainAttrs T) (slot:Slot T name id) (hty:typeOf (.builtin id)=pure (.type "method_descriptor")) (hm:MtG C k X T ty id g) (ho:SE C k X o mo) (ha:SA C k X (e :: es) ms)
  (hbase:attributeBase o name X.env (eval o X.env)=eval o X.env:=by rfl)
  (hfew:((backTo cpos (bz (e :: es) X.env)).all (fun x=>!x.1) && (backToKw cpos (keywordEach [] X.env)).all (fun x=>x.1.isSome)
   && decide ((e :: es).length+([]:List Keyword).length+(if ([]:List Keyword).isEmpty then 0 else 1) < 30))=true:=by rfl)
  (hline:(apos.endLine == cpos.line)=true:=by rfl) (hs:bz (e :: es) X.env=(false,eval e X.env) :: bz es X.env:=by rfl) (hplain:(backTo cpos (bz es X.env)).any (·.1)=false:=by rfl):
  SE C k X (.Call (.Attribute o name apos) (e :: es) [] cpos) (mMt ty g mo ms):=fun c pins s σ H Q I ⟨φ,δ,h,rh,re,p⟩=>by
 refine wpAny_Call_method_late hbase hfew hline rfl (thn (ho c pins s σ H _ I ⟨φ,δ,h,rh,re,post.bind p⟩) ?_);rintro v s1 ⟨x,H1,I1,r1,φ1,px,h1,p1,t1,rh1,rv1,q1⟩;obtain ⟨ht,q1⟩:=q1.ite;obtain ⟨g1,g2⟩:=(hm c).2 pins s1 σ H1 φ1 h1 px x v I1 rh1 rv1 r1 ht;refine ⟨T,id,pa,slot,hty,g1,g2,?_⟩;have hA:=ha c cpos pins s1 σ H1 _ I1 ⟨φ1,δ,h1,rh1,re.mono p1 t1,postA.bind q1⟩;rw [hs] at hA ⊢;refine Calls.callWith_builtin (show (false || (backTo cpos (bz es X.env)).any (·.1))=false by rw [hplain]; rfl) (Calls.evalArgs_plain (thn hA ?_));rintro us s2 ⟨vs,H2,I2,r2,φ2,ps,h2,p2,t2,rh2,rv2,q2⟩;exact (hm c).1 pins s2 σ H2 x vs v us Q I2 r1 r2 ⟨φ2,h2,px,ps,rh2,rv1.mono p2 t2,rv2,q2⟩
theorem Pn (pa:PlainAttrs T) (slot:Slot T name id) (hty:typeOf (.builtin id)=pure (.type "method_descriptor")) (hm:MtG C k X T ty id g) (ho:SE C k X o mo)
  (hbase:attributeBase o name X.env (eval o X.env)=eval o X.env:=by rfl) (hline:(apos.endLine == cpos.line)=true:=by rfl):SE C k X (.Call (.Attribute o name apos) [] [] cpos) (NA ty g mo):=fun c pins s σ H Q I ⟨φ,δ,h,rh,re,p⟩=>by
 refine wpAny_Call_method0_late hbase hline (thn (ho c pins s σ H _ I ⟨φ,δ,h,rh,re,post.bind p⟩) ?_);rintro v s1 ⟨x,H1,I1,r1,φ1,px,h1,p1,t1,rh1,rv1,q1⟩;obtain ⟨ht,q1⟩:=q1.ite;obtain ⟨g1,g2⟩:=(hm c).2 pins s1 σ H1 φ1 h1 px x v I1 rh1 rv1 r1 ht;exact ⟨T,id,pa,slot,hty,g1,g2,Calls.callWith_builtin rfl (PySem.evalArgs_none ((hm c).1 pins s1 σ H1 x [] v [] Q I1 r1 .nil ⟨φ1,h1,px,[],rh1,rv1,trivial,q1⟩))⟩
end
noncomputable def eD (x:PV) (h:PH):Bool:=match x with
 | .ref n=>match h[n]? with
  | some (.dK _)=>true
  | some (.dD _)=>true
  | _=>false
 | _=>false
theorem nY (c:Cxt C k X):∀ pins s σ H φ h p x v,Inv X pins σ H s->RH C φ H h->RV C φ H p x->RelV x v->eD p h=true->s.TypeIs v "dict" /\ ∀ a,v=.ref a->∃ ob,s.heap.get? a=some ob/\ob.dict=none:=by
 intro pins s σ H φ h p x v I rh rv r e;unfold eD at e;cases p with
 | ref n=>
  obtain ⟨a,rfl,ha⟩:=rv;cases r
  dsimp only at e;split at e
  ·rename_i kvs hk;obtain ⟨ks,hH,rk⟩:=rh.at' n a _ ha hk;obtain ⟨z,hd,vs,rel,dd⟩:=BP I.hok hH;refine ⟨dd.typeIs,fun b eb=>?_⟩;cases eb
   obtain ⟨ob,_,_,h1,h2,_⟩:=dd;exact ⟨ob,h1,h2.2.1⟩
  ·rename_i kvs hk;have ht:cM h n=some kvs:=by unfold cM; rw [hk]
   obtain ⟨⟨ks,xs,r,rx',hz,hm,dd⟩,_⟩:=uL I c.K c.w rh ha ht;refine ⟨dd.typeIs,fun b eb=>?_⟩;cases eb
   obtain ⟨ob,_,_,h1,h2,_⟩:=dd;exact ⟨ob,h1,h2.2.1⟩
  ·cases e
 | _=>cases e
noncomputable def dG (h:PH) (x y:PV):Option (Option PV):=match jM y x h with
 | some o=>some o
 | none=>match x with
  | .ref n=>C4 h n y
  | _=>none
noncomputable def En:PV->List PV->PH->Rs PV:=fun x ps h=>match ps with
 | [y]=>match dG h x y with
  | some o=>.ok (o.getD .non) h
  | none=>.bad
 | [y,z]=>match dG h x y with
  | some o=>.ok (o.getD z) h
  | none=>.bad
 | _=>.bad
theorem Kv {x y:PV} {h:PH} {o:Option PV} (e:jM x y h=some o):∃ n kvs,y=.ref n/\x.isKt=true/\cM h n=some kvs/\o=aV kvs x:=by
 unfold jM at e;cases y with
 | ref n=>
  dsimp only at e;split at e
  ·rename_i hk;cases e1:cM h n with
   | none=>rw [e1] at e; cases e
   | some kvs=>rw [e1] at e; cases e; exact ⟨n,kvs,rfl,hk,e1,rfl⟩
  ·cases e
 | _=>cases e
theorem QQ (c:Cxt C k X):MtR X "dict.get" (rM C En):=fun pins s σ H x xs v us Q I rx rs h=>by
 obtain ⟨φ,h,p,ps,rh,rp,rps,po⟩:=h
 -- what is found
 have key:∀ {y:PV} {yv:V} {yu:Value} {o:Option PV} {d:PV} {dv:V} {du:Value} {more:List Value},dG h p y=some o->RV C φ H y yv->RelV yv yu->RV C φ H d dv->RelV dv du->
   ((more=[]/\du=.none/\dv=.non)\/more=[du])->(∀ z,RV C φ H (o.getD d) z->Q z H)->wpAny (model X.prog X.w) X.A (call (.builtin "dict.get") (v :: yu :: more)) (EP X pins σ Q) X.xe s:=by
  intro y yv yu o d dv du more e ry ryu rd rdu hm q;unfold dG at e;cases e1:jM y p h with
  | some o'=>
   rw [e1] at e;cases e
   obtain ⟨n,kvs,rfl,hk,ht,rfl⟩:=Kv e1;obtain ⟨a,rfl,ha⟩:=rp;cases rx
   obtain ⟨b,rfl⟩:=kQ hk ry;cases ryu
   obtain ⟨⟨ks,xs,r,rx',hz,hm',dd⟩,_⟩:=uL I c.K c.w rh ha ht;have hv:=HD.val (a:=a) r rx' y;have fin:EP X pins σ Q (((atKey xs y).map (·.2)).getD du) { s with toks:=s.toks+(jR X.prog X.w).draws y }:=by
    cases e2:aV kvs y with
    | some p2=>
     rw [e2] at hv q;cases e3:atKey xs y with
     | none=>rw [e3] at hv; exact hv.elim
     | some z=>
      rw [e3] at hv;obtain ⟨v',rv1,rv2⟩:=hv;exact ⟨v',H,I.tok _,rv1,q v' rv2⟩
    | none=>
     rw [e2] at hv q;cases e3:atKey xs y with
     | some z=>rw [e3] at hv; exact hv.elim
     | none=>exact ⟨dv,H,I.tok _,rdu,q dv rd⟩
   rcases hm with ⟨rfl,rfl,_⟩ | rfl
   ·exact iz d8 dd.typeIs f6 (PySem.F.args_dict_get_2 _ _) (meetsH_dict_get (jR X.prog X.w) a b hm') ⟨c.room6,y,xs,uM I c.K hk ry,dd,fin⟩
   ·exact iz d8 dd.typeIs f6 (PySem.F.args_dict_get_3 _ _ _) (meetsH_dict_get_default (jR X.prog X.w) a b hm' du) ⟨c.room6,y,xs,uM I c.K hk ry,dd,fin⟩
  | none=>
   rw [e1] at e;cases p with
   | ref n=>
    obtain ⟨a,rfl,ha⟩:=rp;cases rx
    dsimp only at e;obtain ⟨o',g,is,val⟩:=mD rh ha ry e;have fin:∀ w' s',Inv X pins σ H s'->RelV (o'.getD dv) w'->EP X pins σ Q w' s':=fun w' s' I' r'=>by
     refine ⟨o'.getD dv,H,I',r',q _ ?_⟩;cases o with
     | some p2=>obtain ⟨w2,rfl,rw2⟩:=val p2 rfl; exact rw2
     | none=>
      cases o' with
      | none=>exact rd
      | some z=>cases is
    rcases hm with ⟨rfl,rfl,rfl⟩ | rfl
    ·exact Qk c.hu I g ryu fin
    ·exact Ql c.hu I g ryu rdu fin
   | _=>cases e
 unfold En at po;split at po
 ·rename_i y;split at po
  ·rename_i o e;obtain ⟨yv,rfl,ry⟩:=rps.one;obtain ⟨yu,rfl,ryu⟩:=vals1 rs;exact key (d:=.non) (dv:=.non) (du:=.none) e ry ryu rfl rfl (.inl ⟨rfl,rfl,rfl⟩) fun z rz=>po.val rh rz
  ·exact po.elim
 ·rename_i y z;split at po
  ·rename_i o e;obtain ⟨yv,zv,rfl,ry,rz⟩:=rps.two;obtain ⟨yu,zu,rfl,ryu,rzu⟩:=vals2 rs;exact key e ry ryu rz rzu (.inr rfl) fun z rz=>po.val rh rz
  ·exact po.elim
 ·exact po.elim
theorem Po:MtG C k X "dict" eD "dict.get" En:=fun c=>⟨QQ c,nY c⟩
noncomputable def jW:List PV->Option (List (Key×PV))
 | []=>some []
 | .tup [y,v] :: r=>match nO y,jW r with
  | some key,some rs=>some ((key,v) :: rs)
  | _,_=>none
 | _ :: _=>none
noncomputable def qC (kvs more:List (Key×PV)):List (Key×PV):=more.foldl (fun acc kv=>dO acc kv.1 kv.2) kvs
theorem Eo {φ:List Addr} {H:Hp}:∀ {more:List (Key×PV)} {ms:List (Key×V)} {kvs:List (Key×PV)} {ks:List (Key×V)},RKv C φ H more ms->RKv C φ H kvs ks->RKv C φ H (qC kvs more) (pO ks ms):=by
 intro more ms kvs ks r;unfold RKv at r
 induction r generalizing kvs ks with
 | nil=>intro q; exact q
 | @cons p q ps qs h t ih=>
  intro r0;have e:=uO r0 p.1 h.2;rw [show putK ks p.1 q.2=putK ks q.1 q.2 by rw [h.1]] at e;exact ih e
theorem Inv.tupleD {pins:List (Addr×Obj)} {σ:St} {H:Hp} {s:Shared} {a:Addr} {xs:List V} (I:Inv X pins σ H s) (h:SqT X.K H a xs):∃ its:List Value,aN xs its/\nB s.heap a its.toArray/\xs.length<=au:=by
 rcases h with h | ⟨o,its,n,hk,hc,hs,hz,r,hd⟩
 ·obtain ⟨z,its,r,p⟩:=h.ok I.hok;exact ⟨its,r,p,z⟩
 ·refine ⟨its.toList,r,⟨o,I.kIn a o hk,hc,⟨n,by simpa using hs⟩,hd⟩,?_⟩
  have e:=r.length;rw [e];simpa using hz
theorem zB {pins:List (Addr×Obj)} {σ:St} {H:Hp} {s:Shared} {φ:List Addr} (I:Inv X pins σ H s) (hK:X.K=C.K):∀ {ps:List PV} {rs:List (Key×PV)} {vs:List V} {us:List Value},jW ps=some rs->RVs C φ H ps vs->aN vs us->
  ∃ qs:List (Addr×Key×Value×Value),us=qs.map (fun q=>dm q.1)/\(∀ q∈qs,(bN X.prog X.w).is q.2.1 q.2.2.1=true)/\(∀ q∈qs,IsTup s.heap q.1 #[q.2.2.1,q.2.2.2])/\∃ ws:List (Key×V),RKv C φ H rs ws/\KV ws (qs.map fun q=>(q.2.1,q.2.2.2))
 | [],rs,[],us,e,_,ru=>by
  cases ru
  cases e
  exact ⟨[],rfl,(fun _ h=>nomatch h),(fun _ h=>nomatch h),[],.nil,.nil⟩
 | p :: ps,rs,v :: vs,us,e,r,ru=>by
  cases ru with
  | @cons _ u _ us' h t=>
   cases p with
   | tup xs=>
    match xs,e with
    | [y,z],e=>
     unfold jW at e;cases e1:nO y with
     | none=>rw [e1] at e; cases e
     | some key=>
      cases e2:jW ps with
      | none=>rw [e1,e2] at e; cases e
      | some rs'=>
       rw [e1,e2] at e;cases e
       obtain ⟨qs,rfl,a1,a2,ws,a3,a4⟩:=zB I hK e2 r.2 t;obtain ⟨b,bs,rfl,sq,rb⟩:=r.1;cases h
       obtain ⟨yv,zv,rfl,ry,rz⟩:=rb.two;rw [<- hK] at sq;obtain ⟨its,rits,pt,_⟩:=I.tuple sq;obtain ⟨yu,zu,rfl,ryu,rzu⟩:=vals2 rits;have ey:=tZ ry e1;subst ey;refine ⟨(b,key,yu,zu) :: qs,rfl,?_,?_,(key,zv) :: ws,.cons ⟨rfl,rz⟩ a3,.cons ⟨rfl,rzu⟩ a4⟩
       ·intro q hq;rcases bc.mp hq with rfl | hq
        ·exact rH ryu
        ·exact a1 q hq
       ·intro q hq;rcases bc.mp hq with rfl | hq
        ·exact pt
        ·exact a2 q hq
    | [],e=>cases e
    | [_],e=>cases e
    | _ :: _ :: _ :: _,e=>cases e
   | _=>cases e
 | [],_,_ :: _,_,_,r,_=>r.elim
 | _ :: _,_,[],_,_,r,_=>r.elim
noncomputable def uP:List PV->PH->Rs PV:=fun xs h=>match xs with
 | [.tup ps]=>match jW ps with
  | some rs=>.ok (.ref h.length) (h++[.dK (qC [] rs)])
  | none=>.bad
 | [.ref n]=>match h[n]? with
  | some (.dK kvs)=>.ok (.ref h.length) (h++[.dK kvs])
  | _=>.bad
 | _=>.bad
theorem Kw:gM C k X (.type "dict") uP:=fun c pins s σ H xs us Q I r h=>by
 obtain ⟨φ,h,ps,rh,rv,po⟩:=h;unfold uP at po;split at po
 ·rename_i ps;split at po
  ·rename_i rs e;obtain ⟨v,rfl,rx⟩:=rv.one;obtain ⟨a,vs,rfl,sa,ra⟩:=rx;obtain ⟨u,rfl,ru⟩:=vals1 r;cases ru
   have hl:=ra.length;have sa':=sa;rw [<- c.K] at sa';obtain ⟨its,rits,⟨o,o1,o2,⟨n,o3⟩,o4⟩,hz⟩:=Inv.tupleD I sa';obtain ⟨qs,rfl,a1,a2,ws,a3,a4⟩:=zB I c.K e ra rits;have hq:qs.length<=au:=by
    have:=rits.length;rw [ae] at this;omega
   refine sJ (I.ok.hd c.calm) o1 o2 o3 o4 a1 a2 hq fun h' tk dd kk=>?_;have r1:=Eo a3 (.nil:RKv C φ H [] []);have hz2:(pO [] ws).length<=au:=by
    have h1:=lO ws [];have h2:=KV.length a4;rw [ae] at h2;simp at h1;omega
   have fr:H s.heap.objs.size=none:=I.fresh;refine ⟨.ref s.heap.objs.size,_,I.laid (a:=s.heap.objs.size) (o:=.dK (pO [] ws)) (t':=tk) kk (ai _) (Al hz2 (beq_eq_false_iff_ne.mpr (i8 (a9 I.big))) (a4.merge .nil) dd),rfl,?_⟩;exact po (φ++[s.heap.objs.size]) (.ref _) _ (cw _ _) (Kp.new fr) (rh.new fr ⟨_,bJ,r1.mono (cw _ _) (Kp.new fr)⟩) ⟨_,rfl,by rw [<- rh.len]; simp⟩
  ·exact po.elim
 ·rename_i n;split at po
  ·rename_i kvs hk;obtain ⟨v,rfl,rx⟩:=rv.one;obtain ⟨a,rfl,ha⟩:=rx;obtain ⟨u,rfl,ru⟩:=vals1 r;cases ru
   obtain ⟨ks,hH,rk⟩:=rh.at' n a _ ha hk;refine JF I (.inl hH) fun p s' hp I'=>⟨.ref p,_,I',rfl,?_⟩;exact po (φ++[p]) (.ref _) _ (cw _ _) (Kp.new hp) (rh.new hp ⟨_,bJ,rk.mono (cw _ _) (Kp.new hp)⟩) ⟨_,rfl,by rw [<- rh.len]; simp⟩
  ·exact po.elim
 ·exact po.elim
end
noncomputable def Hv (x:List Key):List (List Key)->List (List Key)
 | []=>[x]
 | y :: ys=>if bR y x=true then y :: Hv x ys else x :: y :: ys
noncomputable def cS:List (List Key)->List (List Key)
 | []=>[]
 | x :: xs=>Hv x (cS xs)
theorem qD (x:List Key):∀ ys,(Hv x ys).Perm (x :: ys)
 | []=>.refl _
 | y :: ys=>by
  unfold Hv;split
  ·exact ((qD x ys).cons y).trans (.swap x y ys)
  ·exact .refl _
theorem eZ:∀ xs,(cS xs).Perm xs
 | []=>.refl _
 | x :: xs=>(qD x _).trans ((eZ xs).cons x)
theorem rT {S:List Bool} {x:List Key} (hx:shape x=S):∀ {ys:List (List Key)},(∀ y∈ys,shape y=S)->ys.Pairwise (fun a b=>bR b a=false)->(Hv x ys).Pairwise (fun a b=>bR b a=false)
 | [],_,_=>List.pairwise_singleton _ _
 | y :: ys,hs,hp=>by
  have hy:=hs y ak;have hs':=fun z hz=>hs z (aq _ hz);rw [d7] at hp;unfold Hv;split
  ·rename_i h;rw [d7];refine ⟨fun z hz=>?_,rT hx hs' hp.2⟩;rcases bc.mp ((qD x ys).mem_iff.mp hz) with rfl | hz
   ·exact nK h
   ·exact hp.1 z hz
  ·rename_i h;have h':bR y x=false:=by simpa using h
   rw [d7];refine ⟨fun z hz=>?_,d7.mpr hp⟩;rcases bc.mp hz with rfl | hz
   ·exact h'
   ·exact kO (hx.trans hy.symm) (hy.trans (hs' z hz).symm) h' (hp.1 z hz)
theorem hW {S:List Bool}:∀ {xs:List (List Key)},(∀ y∈xs,shape y=S)->(cS xs).Pairwise (fun a b=>bR b a=false)
 | [],_=>.nil
 | x :: xs,hs=>rT (hs x ak) (fun y hy=>hs y (aq _ ((eZ xs).mem_iff.mp hy))) (hW fun y hy=>hs y (aq _ hy))
theorem mH {S:List Bool} {xs ys:List (List Key)} (hs:∀ y∈xs,shape y=S) (hp:ys.Perm xs) (h:ys.Pairwise (fun a b=>bR b a=false)):ys=cS xs:=by
 refine gu (le:=fun a b=>bR b a=false) (fun a b ha hb h1 h2=>?_) h (hW hs) (hp.trans (eZ xs).symm);exact jO ((hs a (hp.mem_iff.mp ha)).trans (hs b ((eZ xs).mem_iff.mp hb)).symm) h2 h1
noncomputable def kP:Key->PV
 | .inl i=>.int i
 | .inr x=>.str x
theorem NL {x:PV} {a:Key} (h:nO x=some a):x=kP a:=by
 cases x <;> first | (cases h; rfl) | cases h
@[simp] theorem Gh (a:Key):nO (kP a)=some a:=by cases a <;> rfl
noncomputable def jI:List PV->Option (List Key)
 | []=>some []
 | x :: xs=>match nO x,jI xs with
  | some a,some r=>some (a :: r)
  | _,_=>none
theorem nZ:∀ {xs:List PV} {ks:List Key},jI xs=some ks->xs=ks.map kP
 | [],_,h=>by cases h; rfl
 | x :: xs,ks,h=>by
  unfold jI at h;cases e1:nO x with
  | none=>rw [e1] at h; cases h
  | some a=>
   cases e2:jI xs with
   | none=>rw [e1,e2] at h; cases h
   | some r=>
    rw [e1,e2] at h;cases h
    rw [NL e1,nZ e2];rfl
@[simp] theorem Kx:∀ ks:List Key,jI (ks.map kP)=some ks
 | []=>rfl
 | a :: ks=>by simp [jI,Kx ks]
noncomputable def tP (ks:List Key):PV:=.tup (ks.map kP)
noncomputable def jJ:List PV->Option (List (List Key))
 | []=>some []
 | .tup xs :: r=>match jI xs,jJ r with
  | some a,some b=>some (a :: b)
  | _,_=>none
 | _ :: _=>none
theorem uQ:∀ {xs:List PV} {ks:List (List Key)},jJ xs=some ks->xs=ks.map tP
 | [],_,h=>by cases h; rfl
 | x :: xs,ks,h=>by
  cases x with
  | tup ys=>
   unfold jJ at h;cases e1:jI ys with
   | none=>rw [e1] at h; cases h
   | some a=>
    cases e2:jJ xs with
    | none=>rw [e1,e2] at h; cases h
    | some r=>
     rw [e1,e2] at h;cases h
     rw [nZ e1,uQ e2];rfl
  | _=>cases h
@[simp] theorem oA:∀ ks:List (List Key),jJ (ks.map tP)=some ks
 | []=>rfl
 | a :: ks=>by simp [jJ,tP,oA ks]
noncomputable def lN (kss:List (List Key)):Bool:=match kss with
 | []=>true
 | a :: r=>(!a.isEmpty) && r.all fun x=>shape x == shape a
theorem mI {kss:List (List Key)} (h:lN kss=true):∃ b sh,∀ ks∈kss,shape ks=b :: sh:=by
 cases kss with
 | nil=>exact ⟨true,[],fun _ h=>nomatch h⟩
 | cons a r=>
  unfold lN at h;rw [cm] at h;cases a with
  | nil=>cases h.1
  | cons z zs=>
   refine ⟨cX z,shape zs,fun ks hk=>?_⟩;rcases bc.mp hk with rfl | hk
   ·rfl
   ·have:=cg.mp h.2 ks hk;exact eq_of_beq this
section
variable {C:MC} {k:Nat} {X:Cx}
theorem Th {φ:List Addr} {H:Hp} {a:Key} {v:V}:RV C φ H (kP a) v ↔ Rep C.K H (kD a) v:=by cases a <;> exact l9
theorem AI {φ:List Addr} {H:Hp}:∀ {ks:List Key} {vs:List V},RVs C φ H (ks.map kP) vs ↔ cG C.K H (ks.map kD) vs
 | [],[]=>l9
 | [],_ :: _=>l9
 | _ :: _,[]=>l9
 | _ :: _,_ :: _=>and_congr Th AI
theorem Ti {φ:List Addr} {H:Hp} {ks:List Key} {v:V}:RV C φ H (tP ks) v ↔ Rep C.K H (tD ks) v:=by
 constructor
 ·rintro ⟨a,vs,e,s,r⟩; exact ⟨a,vs,e,s,AI.mp r⟩
 ·rintro ⟨a,vs,e,s,r⟩; exact ⟨a,vs,e,s,AI.mpr r⟩
theorem oB {φ:List Addr} {H:Hp}:∀ {kss:List (List Key)} {vs:List V},RVs C φ H (kss.map tP) vs ↔ cG C.K H (kss.map tD) vs
 | [],[]=>l9
 | [],_ :: _=>l9
 | _ :: _,[]=>l9
 | _ :: _,_ :: _=>and_congr Ti oB
noncomputable def uR:PV->List PV->PH->Rs PV:=fun x ps h=>match x,ps with
 | .ref n,[]=>match h[n]? with
  | some (.dK _)=>.ok (.ref h.length) (h++[.vw 0 n])
  | _=>.bad
 | _,_=>.bad
theorem NM:MtG C k X "dict" eD "dict.items" uR:=fun c=>⟨MtR.imp (show MtR X "dict.items" JQ from JR) fun x xs H Q h=>by
 obtain ⟨φ,h,p,ps,rh,rp,rps,po⟩:=h;unfold uR at po;split at po
 ·rename_i n;split at po
  ·rename_i kvs hk;obtain ⟨a,rfl,ha⟩:=rp;obtain ⟨ks,hH,rk⟩:=rh.at' n a _ ha hk;have:xs=[]:=by cases xs <;> first | rfl | exact rps.elim
   subst this;refine ⟨a,ks,rfl,rfl,hH,fun l hl=>?_⟩;refine po (φ++[l]) (.ref l) _ (cw _ _) (Kp.new hl) (rh.new hl ⟨a,gL (cw _ _) ha,bJ⟩) ⟨l,rfl,by rw [<- rh.len]; simp⟩
  ·exact po.elim
 ·exact po.elim,nY c⟩
noncomputable def Ky (xs:List PV):Option (List PV):=match jJ xs with
 | some kss=>if kss.length < 64/\lN kss=true then some ((cS kss).map tP) else none
 | none=>match jI xs with
  | some ks=>if ks.length < 64/\ks.all (fun x=>cX x == cX (.inr ""))=true then some ((cS (ks.map fun x=>[x])).flatten.map kP) else none
  | none=>none
theorem RH.same {φ:List Addr} {H H1:Hp} {h:PH} (r:RH C φ H h) (s:BO H H1):RH C φ H1 h:=⟨r.len,r.nd,fun n b ob h1 h2=>by
 have q:=r.at' n b ob h1 h2;obtain ⟨u,hu⟩:=q.some;exact q.stay av (Kp.same s) ((s _ _ hu).trans hu.symm)⟩
theorem NN {a b:Str}:bR [.inr a] [.inr b]=decide (a.cps.toList < b.cps.toList):=by
 unfold bR;split
 ·rename_i e;cases e
  simp [bR,List.lt_irrefl]
 ·rfl
theorem rV:∀ {r:List Str} {p:Str},risingS p r=true->((p :: r).map fun x=>[(k7 x:Key)]).Pairwise (fun a b=>bR b a=false)
 | [],p,_=>List.pairwise_singleton _ _
 | x :: r,p,h=>by
  have h0:bR [.inr x] [.inr p]=false/\risingS x r=true:=by
   unfold risingS at h;rw [cm,ltCps_eq] at h;rw [NN];exact ⟨by simpa using h.1,h.2⟩
  have ih:=rV h0.2;rw [a7,d7];refine ⟨fun z hz=>?_,ih⟩;obtain ⟨y,hy,rfl⟩:=az.mp hz;rcases bc.mp hy with rfl | hy
  ·exact h0.1
  ·rw [a7,d7] at ih;exact kO (a:=[.inr p]) (b:=[.inr x]) (c:=[.inr y]) rfl rfl h0.1 (ih.1 _ (az.mpr ⟨y,hy,rfl⟩))
theorem NO {ks:List Key} (h:ks.all (fun x=>cX x == cX (.inr ""))=true):∃ ss:List Str,ks=ss.map k7:=by
 induction ks with
 | nil=>exact ⟨[],rfl⟩
 | cons a ks ih=>
  rw [jq,cm] at h;obtain ⟨ss,e⟩:=ih h.2;cases a with
  | inl i=>exact absurd h.1 (by simp [cX])
  | inr x=>exact ⟨x :: ss,by rw [e]; rfl⟩
theorem AJ {φ:List Addr} {H:Hp}:∀ {ss:List Str} {vs:List V},RVs C φ H (ss.map PV.str) vs ↔ vs=ss.map V.str
 | [],[]=>by simp [RVs]
 | [],_ :: _=>by simp [RVs]
 | _ :: _,[]=>by simp [RVs]
 | x :: ss,v :: vs=>by
  simp only [a7,RVs,List.cons.injEq];exact and_congr l9 AJ
theorem zC:∀ ss:List Str,(((ss.map fun x=>[(k7 x:Key)]).flatten).map kP)=ss.map PV.str
 | []=>rfl
 | x :: ss=>by
  have:=zC ss;simp only [a7,List.flatten_cons,List.singleton_append];rw [this];rfl
theorem Hw {φ:List Addr} {H:Hp} {kvs:List (Key×PV)} {ks:List (Key×V)} (r:RKv C φ H kvs ks):∀ {kss:List (List Key)},jJ (kvs.map fun kv=>PV.tup [kP kv.1,kv.2])=some kss->ks.map (fun kv=>[kV kv.1,kv.2])=kss.map (fun ks=>ks.map kV):=by
 unfold RKv at r
 induction r with
 | nil=>intro kss h; cases h; rfl
 | @cons p q ps qs h t ih=>
  intro kss e;rw [a7] at e;unfold jJ at e;cases e1:jI [kP p.1,p.2] with
  | none=>rw [e1] at e; cases e
  | some a=>
   cases e2:jJ (ps.map fun kv=>PV.tup [kP kv.1,kv.2]) with
   | none=>rw [e1,e2] at e; cases e
   | some b=>
    rw [e1,e2] at e;cases e
    rw [a7,a7,ih e2]
    congr 1
    unfold jI at e1;rw [Gh] at e1;cases e3:jI [p.2] with
    | none=>rw [e3] at e1; cases e1
    | some c=>
     rw [e3] at e1;cases e1
     have:=nZ e3
     match c,this with
     | [d],this=>
      have e4:p.2=kP d:=by simpa using this
      have rv:=h.2;rw [e4] at rv;have e5:q.2=kV d:=tZ rv (Gh d);rw [h.1,e5];rfl
     | [],this=>exact absurd this (by simp)
     | _ :: _ :: _,this=>exact absurd this (by simp)
noncomputable def Gi (h:PH) (n:Nat):Option (List PV):=match h[n]? with
 | some (.vw 0 d)=>match h[d]? with
  | some (.dK kvs)=>some (kvs.map fun kv=>.tup [kP kv.1,kv.2])
  | _=>none
 | _=>none
noncomputable def gP:List PV->PH->Rs PV:=fun xs h=>match xs with
 | [.ref n]=>match aP h n with
  | some ys=>match Ky ys with
   | some zs=>.ok (.ref h.length) (h++[.lst zs])
   | none=>.bad
  | none=>match Gi h n with
   | some ys=>match jJ ys with
    | some kss=>if kss.length < 64/\lN kss=true then .ok (.ref h.length) (h++[.lst ((cS kss).map tP)]) else .bad
    | none=>.bad
   | none=>.bad
 | _=>.bad
theorem Cd:gM C k X (.builtin "sorted") gP:=fun c=>bT.imp (bT.or (Av c.calm C.K c.K) (by have:=pQ (X:=X); rw [c.K] at this; exact this)) fun vs H Q h=>by
 obtain ⟨φ,h,ps,rh,rv,po⟩:=h;unfold gP at po;split at po
 ·rename_i n;obtain ⟨v,rfl,rx⟩:=rv.one;obtain ⟨a,rfl,ha⟩:=rx;split at po
  ·rename_i ys e;obtain ⟨a2,vs,ha2,sa,ra⟩:=bP rh e;rw [ha] at ha2; cases ha2;split at po
   ·rename_i zs ez;unfold Ky at ez;split at ez
    ·rename_i kss ek;split at ez
     ·rename_i hc;cases ez
      have ey:=uQ ek;subst ey;obtain ⟨b,sh,hsh⟩:=mI hc.2;refine .inl ⟨a,kss,sh,b,rfl,hc.1,hsh,.inl ⟨vs,sa,oB.mp ra,fun l kss' vs' hl hp hs hr=>?_⟩⟩;rw [mH hsh hp hs] at hr;exact po.lnew rh (oB.mpr hr) hl
     ·cases ez
    ·split at ez
     ·rename_i ks ek;split at ez
      ·rename_i hc;cases ez
       obtain ⟨ss,rfl⟩:=NO hc.2;have ey:=nZ ek;rw [bq] at ey;have ey':ys=ss.map PV.str:=ey;subst ey';have ev:=AJ.mp ra;subst ev;refine .inr ⟨a,ss,rfl,sa,by simpa using hc.1,fun l ss' hl hp hs=>?_⟩
       have e1:(ss'.map fun x=>[(k7 x:Key)])=cS ((ss.map k7).map fun x=>[x]):=by
        rw [bq];refine mH (S:=[false]) (fun y hy=>?_) (hp.map _) ?_
        ·obtain ⟨z,_,rfl⟩:=az.mp hy; rfl
        ·cases ss' with
         | nil=>exact .nil
         | cons x r=>exact rV hs
       rw [<- e1] at po;refine po.lnew rh ?_ hl;have e2:(((ss'.map fun x=>[(k7 x:Key)]).flatten).map kP)=ss'.map PV.str:=zC ss';rw [e2];exact AJ.mpr rfl
      ·cases ez
     ·cases ez
   ·exact po.elim
  ·split at po
   ·rename_i ys ev;split at po
    ·rename_i kss ek;obtain ⟨hc,po⟩:=po.ite;unfold Gi at ev;split at ev
     ·rename_i d hv;split at ev
      ·rename_i kvs hk;cases ev
       obtain ⟨b,hb,hH⟩:=rh.at' n a _ ha hv;obtain ⟨ks,hD,rk⟩:=rh.at' d b _ hb hk;obtain ⟨bb,sh,hsh⟩:=mI hc.2;refine .inl ⟨a,kss,sh,bb,rfl,hc.1,hsh,.inr ⟨b,ks,hH,hD,?_,fun H1 s1 l kss' vs' hl hp hs hr=>?_⟩⟩
       ·exact Hw rk ek
       ·rw [mH hsh hp hs] at hr;exact (post.weak av (Kp.same s1) po).lnew (rh.same s1) (oB.mpr hr) hl
      ·cases ev
     ·cases ev
    ·exact po.elim
   ·exact po.elim
 ·exact po.elim
end
end L2
namespace L2
open PySem
section
variable {h:PH}
@[simp] theorem Tj {x:PV} {xs:List PV}:jM x (.tup xs) h=none:=(rfl)
@[simp] theorem Uw {x:PV} {xs:List PV}:jM x (.fl xs) h=none:=(rfl)
@[simp] theorem RM {x:PV} {z:Str}:jM x (.str z) h=none:=(rfl)
@[simp] theorem Tn {i:Int} {y:PV}:jM (.int i) y h=none:=by cases y <;> rfl
@[simp] theorem To {i:Str} {y:PV}:jM (.str i) y h=none:=by cases y <;> rfl
@[simp] theorem Ux {x:PV} {i:Int}:vAt x (.int i) h=vIx x (.int i) h:=by unfold vAt; simp
theorem oC {n:Nat} {kvs:List (Key×PV)} (e:h[n]?=some (.dK kvs)):eD (.ref n) h=true:=by unfold eD; simp [e]
theorem Gj {n:Nat} {kvs:List (Key×PV)} {x:Str} {z:PV} (e:h[n]?=some (.dK kvs)):En (.ref n) [.str x,z] h=.ok ((aV kvs (.inr x)).getD z) h:=by
 simp [En,dG,C4,e,nO]
theorem Gk {n:Nat} {kvs:List (Key×PV)} {x:Str} {z:PV} (e:h[n]?=some (.dK kvs)) (c:kvs.length < 16777216):sN (.ref n) (.str x) z h=some (h.set n (.dK (dO kvs (.inr x) z))):=by
 simp [sN,e,nO,c]
theorem Hx {n:Nat} {kvs:List (Key×PV)} (e:h[n]?=some (.dK kvs)):uR (.ref n) [] h=.ok (.ref h.length) (h++[.vw 0 n]):=by simp [uR,e]
theorem wZ {n d:Nat} {kvs:List (Key×PV)} {kss:List (List Key)} (e1:h[n]?=some (.vw 0 d)) (e2:h[d]?=some (.dK kvs)) (ek:kvs.map (fun kv=>PV.tup [kP kv.1,kv.2])=kss.map tP) (h1:kss.length < 64) (h2:lN kss=true):
  gP [.ref n] h=.ok (.ref h.length) (h++[.lst ((cS kss).map tP)]):=by
 have e3:aP h n=none:=by simp [aP,e1]
 have e4:Gi h n=some (kvs.map fun kv=>PV.tup [kP kv.1,kv.2]):=by simp [Gi,e1,e2]
 simp only [gP,e3,e4,ek,oA];rw [if_pos ⟨h1,h2⟩]
theorem AK {n:Nat} {kss:List (List Key)} (e1:h[n]?=some (.lst (kss.map tP))) (h1:kss.length < 64) (h2:lN kss=true):
  gP [.ref n] h=.ok (.ref h.length) (h++[.lst ((cS kss).map tP)]):=by
 have e3:aP h n=some (kss.map tP):=by simp [aP,e1]
 simp only [gP,e3,Ky,oA];rw [if_pos ⟨h1,h2⟩]
theorem Ce {ps:List PV} {rs:List (Key×PV)} (e:jW ps=some rs):uP [.tup ps] h=.ok (.ref h.length) (h++[.dK (qC [] rs)]):=by simp [uP,e]
end
end L2
namespace L2
open PySem PySem.Spec PyProof.Rows
section
variable {C:MC} {k:Nat} {X:Cx}
noncomputable def kR:PV->List PV->PH->Rs PV:=fun x ps h=>match x,ps with
 | .ref n,[y,z]=>match nO y with
  | some key=>match h[n]? with
   | some (.dK kvs)=>match aV kvs key with
    | some p=>.ok p h
    | none=>if kvs.length < au then .ok z (h.set n (.dK (dO kvs key z))) else .bad
   | _=>.bad
  | none=>if y.isKt=true then (match cM h n with
   | some kvs=>match aV kvs y with
    | some p=>.ok p h
    | none=>if kvs.length < au then .ok z (h.set n (.dD (dO kvs y z))) else .bad
   | none=>.bad) else .bad
 | _,_=>.bad
theorem Kz {κ:Type} [DecidableEq κ] (kvs:List (κ×PV)) (a:κ) (p:PV):(dO kvs a p).length<=kvs.length+1:=by
 unfold dO;split
 ·rw [ae]; omega
 ·simp
theorem xE (c:Cxt C k X):MtR X "dict.setdefault" (rM C kR):=fun pins s σ H x xs v us Q I rx rs h=>by
 obtain ⟨φ,h,p,ps,rh,rp,rps,po⟩:=h;unfold kR at po;split at po
 ·rename_i n y z;obtain ⟨a,rfl,ha⟩:=rp;cases rx
  obtain ⟨yv,zv,rfl,ry,rz⟩:=rps.two;obtain ⟨yu,zu,rfl,ryu,rzu⟩:=vals2 rs;split at po
  ·rename_i key hkey;split at po
   ·rename_i kvs hk;obtain ⟨ks,hH,rk⟩:=rh.at' n a _ ha hk;have ey:=tZ ry hkey;subst ey;obtain ⟨hz,hd,vs,rel,dd⟩:=BP I.hok hH;have hzv:vs.length<=au:=by rw [<- rel.length]; exact hz
    have lv:=pY rk key;have rv:=rel.val key;refine iz j5 dd.typeIs PySem.F.entry_dict_setdefault (PySem.F.args_dict_setdefault_3 _ _ _) (iT (bN X.prog X.w) a hd (rH ryu) zu) ⟨vs,dd,hzv,fun v e=>?_,fun e h' dd' hs=>?_⟩
    ·rw [e] at rv;cases e1:iB ks key with
     | none=>rw [e1] at rv; exact rv.elim
     | some v1=>
      rw [e1] at rv lv;cases e2:aV kvs key with
      | none=>rw [e2] at lv; exact lv.elim
      | some p1=>
       rw [e2] at lv po;exact ⟨v1,H,I.tok _,rv,po.val rh lv⟩
    ·rw [e] at rv;cases e1:iB ks key with
     | some v1=>rw [e1] at rv; exact rv.elim
     | none=>
      rw [e1] at lv;cases e2:aV kvs key with
      | some p1=>rw [e2] at lv; exact lv.elim
      | none=>
       rw [e2] at po;obtain ⟨hl,po⟩:=po.ite;have hl':(putK ks key zv).length<=au:=by
        have:=gK ks key zv;have e3:=eu rk;omega
       have he:∃ q,h'.get? a=some q:=let ⟨q,_,_,hq,_⟩:=dd'; ⟨q,hq⟩;refine ⟨zv,upd H a (.dK (putK ks key zv)),nE I (by rw [hH]; exact jy) hs he (Al hl' hd (rel.put key rzu) dd'),rzu,?_⟩;have kp:Kp H (upd H a (.dK (putK ks key zv))):=Kp.dK hH;exact po φ zv _ av kp (rh.write ha (by rw [hH]; exact jy) ⟨_,bJ,(uO rk key rz).mono av kp⟩) (rz.mono av kp)
   ·exact po.elim
  ·obtain ⟨hk,po⟩:=po.ite;split at po
   ·rename_i kvs ht;obtain ⟨b,rfl⟩:=kQ hk ry;cases ryu
    obtain ⟨⟨ks,xs,r,rx',hz,hm,dd⟩,mu,nt⟩:=uL I c.K c.w rh ha ht;have hv:=HD.val (a:=a) r rx' y;refine iz j5 dd.typeIs PySem.F.entry_dict_setdefault (PySem.F.args_dict_setdefault_3 _ _ _) (jL (jR X.prog X.w) a b hm zu) ⟨c.room6,y,xs,uM I c.K hk ry,dd,hz,fun p e=>?_,fun e h' dd' hs=>?_⟩
    ·rw [e] at hv;cases e2:aV kvs y with
     | none=>rw [e2] at hv; exact hv.elim
     | some p1=>
      rw [e2] at hv po;obtain ⟨v',rv1,rv2⟩:=hv;exact ⟨v',H,I.tok _,rv1,po.val rh rv2⟩
    ·rw [e] at hv;cases e2:aV kvs y with
     | some p1=>rw [e2] at hv; exact hv.elim
     | none=>
      rw [e2] at po;obtain ⟨hl,po⟩:=po.ite;obtain ⟨ks',r1,r2⟩:=HD.put (a:=a) r rx' (nX hk) ry rz rzu;obtain ⟨o,es,ep,hq,h2,h3,h4,_,h5⟩:=dd';have hl2:ks'.length<=au:=by
       have e1:=eu r1;have e3:=Kz kvs y z;omega
      refine ⟨zv,upd H a (dDO C.w a ks'),nE I mu hs ⟨o,hq⟩ ⟨⟨hl2,hm,_,r2,o,es,ep,hq,h2,h3,?_,h5⟩,⟨o,hq⟩,?_⟩,rzu,?_⟩
      ·rw [h4,<- c.w]; rfl
      ·rintro g1 g2 ⟨z1,z2,ws,z3,o',es',ep',z4,z5⟩ keep;exact ⟨z1,z2,ws,z3,o',es',ep',keep _ z4,z5⟩
      ·exact po φ zv _ av (Kp.upd nt) (rh.write ha nt ⟨ks',bJ,RKd.mono av (Kp.upd nt) r1⟩) (rz.mono av (Kp.upd nt))
   ·exact po.elim
 ·exact po.elim
theorem AL:MtG C k X "dict" eD "dict.setdefault" kR:=fun c=>⟨xE c,nY c⟩
end
section
variable {C:MC} {k:Nat} {X:Cx}
noncomputable def iZ (h:PH) (d:Nat):Option (List PV):=match h[d]? with
 | some (.dK kvs)=>some (kvs.map (·.2))
 | some (.dD kvs)=>some (kvs.map (·.2))
 | _=>none
theorem Ep {prog:Program} {w:World} {K:Type} [DecidableEq K] {knd:KeyKind prog w K} {es:List DictEntry} {kvs:List (K×Value)} (h:Pairs knd es kvs):es.map (·.val)=kvs.map (·.2):=by
 apply e8;intro i;rw [aj,aj];have hl:=h.length
 by_cases hi:i < es.length
 ·have e1:es[i]?=some es[i]:=by simp [hi]
  have hi':i < kvs.length:=by omega
  have e2:kvs[i]?=some (kvs[i].1,kvs[i].2):=by simp [hi']
  rw [e1,e2];exact congrArg some (h.get? e1 e2).2
 ·rw [kg (by omega),kg (by omega)];rfl
theorem Cf {pins:List (Addr×Obj)} {σ:St} {H:Hp} {s:Shared} {φ:List Addr} {h:PH} {d:Nat} {b:Addr} {xs:List PV} (c:Cxt C k X) (I:Inv X pins σ H s) (rh:RH C φ H h) (hb:φ[d]?=some b) (e:iZ h d=some xs):
  s.TypeIs (.ref b) "dict" /\ (b == fg)=false/\xs.length<=au/\∃ oc es ep,s.heap.get? b=some oc/\oc.data=.dict es ep/\∃ ws,RVs C φ H xs ws/\aN ws (es.toList.map (·.val)):=by
 unfold iZ at e;split at e
 ·rename_i kvs hk;cases e
  obtain ⟨ks,hH,rk⟩:=rh.at' d b _ hb hk;obtain ⟨z,hd,vs,rel,dd⟩:=BP I.hok hH;refine ⟨dd.typeIs,hd,by rw [ae,eu rk]; exact z,?_⟩;obtain ⟨oc,es,ep,g1,g2,g3,g4,g5,g6⟩:=dd;refine ⟨oc,es,ep,g1,g3,ks.map (·.2),?_,?_⟩
  ·unfold RKv at rk;clear hk hH rel z
   induction rk with
   | nil=>trivial
   | cons q t ih=>exact ⟨q.2,ih⟩
  ·rw [Ep g5];clear hk hH g4 g5 g6 z;unfold KV at rel;clear rk
   induction rel with
   | nil=>exact .nil
   | cons q t ih=>exact .cons q.2 ih
 ·rename_i kvs hk;cases e
  have ht:cM h d=some kvs:=by unfold cM; rw [hk]
  obtain ⟨⟨ks,ys,r,rx',hz,hm,dd⟩,_⟩:=uL I c.K c.w rh hb ht;have hlen:kvs.length=ys.length:=(eu r).trans (eu rx');refine ⟨dd.typeIs,hm,by rw [ae,hlen]; exact hz,?_⟩;obtain ⟨oc,es,ep,g1,g2,g3,g4,g5,g6⟩:=dd;refine ⟨oc,es,ep,g1,g3,ks.map (·.2.2),?_,?_⟩
  ·unfold RKd at r;clear hk ht rx' hlen
   induction r with
   | nil=>trivial
   | cons q t ih=>exact ⟨q.2.2.2,ih⟩
  ·rw [g4,bq];clear hk ht r hlen hz g4 g5 g6
   induction rx' with
   | nil=>exact .nil
   | cons q t ih=>exact .cons q.2.2 ih
 ·cases e
noncomputable def Cg:PV->List PV->PH->Rs PV:=fun x ps h=>match x,ps with
 | .ref n,[]=>match iZ h n with
  | some _=>.ok (.ref h.length) (h++[.vw 1 n])
  | none=>.bad
 | _,_=>.bad
theorem m_values:MtG C k X "dict" eD "dict.values" Cg:=fun c=>⟨fun pins s σ H x xs v us Q I rx rs h=>by
 obtain ⟨φ,h,p,ps,rh,rp,rps,po⟩:=h;unfold Cg at po;split at po
 ·rename_i n;split at po
  ·rename_i ys ey;obtain ⟨a,rfl,ha⟩:=rp;have:xs=[]:=by cases xs <;> first | rfl | exact rps.elim
   subst this;cases rx
   cases rs
   obtain ⟨hT,hm,_⟩:=Cf c I rh ha ey;refine iz PySem.F.slot_dict_values hT PySem.F.entry_dict_values (PySem.F.args_dict_values_1 _) (Aw a hm) ⟨hT,?_⟩;have fr:H s.heap.objs.size=none:=I.fresh;refine ⟨.ref s.heap.objs.size,_,I.laid (t':=s.toks) (o:=Ph 1 s.heap.objs.size a) (fun b u e=>ah _ e) (ai _) ?_,rfl,?_⟩
   ·exact ⟨⟨_,ay _ rfl,rfl,rfl⟩,⟨_,ay _ rfl⟩,fun h1 h2 ⟨o,e,p⟩ k=>⟨o,k o e,p⟩⟩
   ·exact po (φ++[s.heap.objs.size]) (.ref _) _ (cw _ _) (Kp.new fr) (rh.new fr ⟨a,gL (cw _ _) ha,bJ⟩) ⟨_,rfl,by rw [<- rh.len]; simp⟩
  ·exact po.elim
 ·exact po.elim,nY c⟩
noncomputable def uS (h:PH) (n:Nat):Option (List PV):=match h[n]? with
 | some (.vw 1 d)=>iZ h d
 | _=>none
theorem KA {es:Array DictEntry} {acc:Array Value} (h:ItemsOf (fun i v=>∃ e,es[i]?=some e/\v=e.val) acc es.size):acc.toList=es.toList.map (·.val):=by
 apply e8;intro i;rw [aj,Array.getElem?_toList,Array.getElem?_toList]
 by_cases hi:i < acc.size
 ·have e1:acc[i]?=some acc[i]:=by simp [hi]
  obtain ⟨e,h1,h2⟩:=h.2 i _ e1;rw [e1,h1,h2];rfl
 ·have hi':¬ i < es.size:=by rw [<- h.1]; exact hi
  rw [Array.getElem?_eq_none (by omega),Array.getElem?_eq_none (by omega)];rfl
end
section
variable {h:PH}
theorem Gm {n:Nat} (e:h[n]?=some (.dK [])):cM h n=some []:=by simp [cM,e]
theorem Gn {n:Nat} {kvs:List (PV×PV)} (e:h[n]?=some (.dD kvs)):cM h n=some kvs:=by simp [cM,e]
end
end L2
namespace L2
open PySem PySem.Spec PyProof.Rows PySem.SeqAt PySem.W
noncomputable def Ve (l:List Nat):List Int:=l.map (fun (c:Nat)=>(c:Int)+2)++[1]
mutual
noncomputable def enc:PV->List Int
 | .int i=>[i]
 | .str x=>Ve x.cps.toList
 | .tup xs=>Tp xs
 | _=>[]
noncomputable def Tp:List PV->List Int
 | []=>[0]
 | x :: xs=>1 :: (enc x++Tp xs)
end
noncomputable def ltN (x y:PV):Bool:=decide (enc x < enc y)
section
variable {α:Type} (key:α->PV)
noncomputable def Tq (x:α):List α->List α
 | []=>[x]
 | y :: ys=>if ltN (key y) (key x) then y :: Tq x ys else x :: y :: ys
noncomputable def Pp:List α->List α
 | []=>[]
 | x :: xs=>Tq key x (Pp xs)
end
section
variable {prog:Program} {w:World} {A:Around} {E:Value->Shared->Prop} {s:Shared}
noncomputable def fk:PV->Nat
 | .tup (.int _ :: _)=>0
 | .tup (.str _ :: _)=>1
 | .tup (.tup _ :: _)=>2
 | _=>3
end
structure OkN (m:Nat) (xs:List PV):Prop where
 m3:m < 3
 ky:∀ x∈xs,x.ky 20=true
 fk:∀ x∈xs,fk x=m
 lt:∀ x∈xs,∀ y∈xs,(ltP 20 x y).isSome=true
end L2
namespace L2
open PySem PySem.Spec PyProof.Rows
noncomputable abbrev KP:=List Key×PV
noncomputable def rW (x:KP):List KP->List KP
 | []=>[x]
 | y :: ys=>if bR y.1 x.1=true then y :: rW x ys else x :: y :: ys
noncomputable def fZ:List KP->List KP
 | []=>[]
 | x :: xs=>rW x (fZ xs)
theorem mJ (x:KP):∀ ys,(rW x ys).Perm (x :: ys)
 | []=>.refl _
 | y :: ys=>by
  unfold rW;split
  ·exact ((mJ x ys).cons y).trans (.swap x y ys)
  ·exact .refl _
theorem gQ:∀ xs,(fZ xs).Perm xs
 | []=>.refl _
 | x :: xs=>(mJ x _).trans ((gQ xs).cons x)
theorem oE {S:List Bool} {x:KP} (hx:shape x.1=S):∀ {ys:List KP},(∀ y∈ys,shape y.1=S)->ys.Pairwise (fun a b=>bR b.1 a.1=false)->(rW x ys).Pairwise (fun a b=>bR b.1 a.1=false)
 | [],_,_=>List.pairwise_singleton _ _
 | y :: ys,hs,hp=>by
  have hy:=hs y ak;have hs':=fun z hz=>hs z (aq _ hz);rw [d7] at hp;unfold rW;split
  ·rename_i h;rw [d7];refine ⟨fun z hz=>?_,oE hx hs' hp.2⟩;rcases bc.mp ((mJ x ys).mem_iff.mp hz) with rfl | hz
   ·exact nK h
   ·exact hp.1 z hz
  ·rename_i h;have h':bR y.1 x.1=false:=by simpa using h
   rw [d7];refine ⟨fun z hz=>?_,d7.mpr hp⟩;rcases bc.mp hz with rfl | hz
   ·exact h'
   ·exact kO (hx.trans hy.symm) (hy.trans (hs' z hz).symm) h' (hp.1 z hz)
theorem hZ {S:List Bool}:∀ {xs:List KP},(∀ y∈xs,shape y.1=S)->(fZ xs).Pairwise (fun a b=>bR b.1 a.1=false)
 | [],_=>.nil
 | x :: xs,hs=>oE (hs x ak) (fun y hy=>hs y (aq _ ((gQ xs).mem_iff.mp hy))) (hZ fun y hy=>hs y (aq _ hy))
theorem zD {α β:Type}:∀ {l:List (α×β)},(l.map (·.1)).Nodup->∀ {a b:α×β},a∈l->b∈l->a.1=b.1->a=b
 | [],_,_,_,h,_,_=>nomatch h
 | x :: l,nd,a,b,ha,hb,e=>by
  rw [a7,gg] at nd;rcases bc.mp ha with rfl | ha'
  ·rcases bc.mp hb with rfl | hb'
   ·rfl
   ·exact (nd.1 (az.mpr ⟨b,hb',e.symm⟩)).elim
  ·rcases bc.mp hb with rfl | hb'
   ·exact (nd.1 (az.mpr ⟨a,ha',e⟩)).elim
   ·exact zD nd.2 ha' hb' e
theorem uT {S:List Bool} {xs ys:List KP} (hs:∀ y∈xs,shape y.1=S) (nd:(xs.map (·.1)).Nodup) (hp:ys.Perm xs) (h:ys.Pairwise (fun a b=>bR b.1 a.1=false)):ys=fZ xs:=by
 refine gu (le:=fun a b=>bR b.1 a.1=false) (fun a b ha hb h1 h2=>?_) h (hZ hs) (hp.trans (gQ xs).symm);have ha':=hp.mem_iff.mp ha;have hb':=(gQ xs).mem_iff.mp hb;exact zD nd ha' hb' (jO ((hs a ha').trans (hs b hb').symm) h2 h1)
open Classical in
noncomputable def sortBy (b:Bool) (ks ys:List PV):Option (List PV):=match jJ ks with
 | some kss=>if kss.length < 64/\kss.length=ys.length/\lN kss=true/\kss.Nodup then some ((md b (fZ (kss.zip ys))).map (·.2)) else none
 | none=>none
theorem Hy {b:Bool} {kss:List (List Key)} {ys:List PV} (h1:kss.length < 64) (h2:kss.length=ys.length) (h3:lN kss=true) (h4:kss.Nodup):sortBy b (kss.map tP) ys=some ((md b (fZ (kss.zip ys))).map (·.2)):=by
 unfold sortBy;rw [oA];exact if_pos ⟨h1,h2,h3,h4⟩
noncomputable def gU (f:Fn) (b:Bool) (ys:List PV):List PV->List PV->PH->Rs PV
 | [],ks,h=>match sortBy b ks ys with
  | some zs=>.ok (.ref h.length) (h++[.lst zs])
  | none=>.bad
 | x :: xs,ks,h=>(f [x] h).bind fun k h1=>gU f b ys xs (ks++[k]) h1
noncomputable def iA (x:PV) (h:PH):Option (List PV):=match x with
 | .ref n=>match aP h n with
  | some ys=>some ys
  | none=>uS h n
 | .fl ys=>some ys
 | _=>none
noncomputable def jX (f:Fn) (b:Bool) (x:PV) (h:PH):Rs PV:=match iA x h with
 | some ys=>if ys.length < 64 then gU f b ys ys [] h else .bad
 | none=>.bad
noncomputable def qE (f:Fn) (b:Bool) (me:Me):Me:=fun δ h=>(me δ h).bind fun x h1=>jX f b x h1
section
variable {C:MC} {k:Nat} {X:Cx}
theorem RVs.pick {φ:List Addr} {H:Hp} {xs:List PV} {vs:List V} (r:RVs C φ H xs vs):∀ {p:List Nat},(∀ i∈p,i < xs.length)->RVs C φ H (p.map fun i=>xs.getD i .non) (p.map fun i=>vs.getD i .non)
 | [],_=>trivial
 | i :: p,h=>by
  have hi:=h i ak;have g:xs[i]?=some (xs.getD i .non):=by simp [hi]
  obtain ⟨v,hv,hr⟩:=r.at g;have e:vs.getD i .non=v:=by simp [fb,hv]
  refine ⟨?_,RVs.pick r fun j hj=>h j (aq _ hj)⟩
  show RV C φ H (xs.getD i .non) (vs.getD i .non)
  rw [e];exact hr
theorem uU {pins:List (Addr×Obj)} {σ:St} {H:Hp} {s:Shared} (I:Inv X pins σ H s) {a:Addr} (ha:s.heap.objs.size<=a):X.s₀.heap.objs.size<=a/\a≠X.env.locals/\(∀ x c,X.env.cells.lookup x=some c->c≠a)/\(∀ p∈X.pn++pins,p.1≠a)/\a∉X.fs:=by
 refine ⟨c9 I.sz ha,Nat.ne_of_gt (bh I.lt ha),fun x c e z=>?_,fun p hp z=>?_,I.nofs ha⟩
 ·obtain ⟨v,o,ho,_⟩:=I.cell x c e;rw [z] at ho;exact absurd (bh (aw ho) ha) (fj _)
 ·have ho:=(I.pin p hp).1;rw [z] at ho;exact absurd (bh (aw ho) ha) (fj _)
theorem gW {its:Array Value} {e:Nat}:∀ v,(seqObj "list" its e).data≠.cell v:=fun v z=>nomatch z
theorem Inv.adopt {pins:List (Addr×Obj)} {σ:St} {H:Hp} {s:Shared} {a d:Addr} {o:HO} {h':Heap} (I:Inv X pins σ H s) (ha:H a=none) (hd:H d=none)
  (fa:X.s₀.heap.objs.size<=a/\a≠X.env.locals/\(∀ x c,X.env.cells.lookup x=some c->c≠a)/\(∀ p∈X.pn++pins,p.1≠a)/\a∉X.fs) (fd:X.s₀.heap.objs.size<=d/\d≠X.env.locals/\(∀ x c,X.env.cells.lookup x=some c->c≠d)/\(∀ p∈X.pn++pins,p.1≠d)/\d∉X.fs)
  (kp:∀ x u,x≠a->x≠d->s.heap.get? x=some u->h'.get? x=some u) (new:cO X.prog X.w (upd H a o) h' a o):Inv X pins σ (upd H a o) { s with heap:=h' }:=by
 have na:∀ x u,H x=some u->x≠a:=fun x u e z=>by rw [z,ha] at e; cases e
 have nd:∀ x u,H x=some u->x≠d:=fun x u e z=>by rw [z,hd] at e; cases e
 refine I.call' (s':={ s with heap:=h' }) (ch:=[a,d]) rfl ⟨fun b u q n _ hx=>?_,fun b u q n _ hx=>⟨u.slots,?_⟩,fun b u q n hx=>?_,fun b u q hx=>⟨u,?_⟩,fun b xs q=>?_,fun b u xs q=>?_,fun b ps q=>⟨#[],?_⟩⟩ (fun b u e=>?_) I.bare fun b hb=>?_
 ·exact kp b u (fun z=>hx (by simp [z])) (fun z=>hx (by simp [z])) q
 ·exact kp b u (fun z=>hx (by simp [z])) (fun z=>hx (by simp [z])) q
 ·rw [bG (fun z=>hx (by simp [z]))]; exact n
 ·exact kp b u (fun z=>hx (by simp [z])) (fun z=>hx (by simp [z])) q
 ·rw [bG (na _ _ q)]; exact q
 ·rw [bG (na _ _ q)]; exact q
 ·rw [bG (na _ _ q),q]; simp
 ·by_cases hb:b=a
  ·subst hb; rw [bJ] at e; cases e; exact new
  ·rw [bG hb] at e;refine (I.hok b u e).stay (fun c v hc q=>kp c v ?_ ?_ q) (fun c q=>by rw [bG (na _ _ q)]; exact q) fun c xs q=>by rw [bG (na _ _ q)]; exact q
   ·rcases hc with z | z
    ·rw [z]; exact hb
    ·exact na _ _ z
   ·rcases hc with z | z
    ·rw [z]; exact nd _ _ e
    ·exact nd _ _ z
 ·rcases bc.mp hb with rfl | hb
  ·exact ⟨.inr fa.1,fa.2.1,fa.2.2.1,fa.2.2.2.1⟩
  ·rw [bj.mp hb];exact ⟨.inr fd.1,fd.2.1,fd.2.2.1,fd.2.2.2.1⟩
noncomputable def QR (C:MC) (X:Cx) (pins:List (Addr×Obj)) (σ:St) (φ:List Addr) (H:Hp) (f:Fn) (b:Bool) (ys:List PV) (Q:VK) (a z:Addr) (kS:Addr) (e1:Nat) (ks:List Value) (e:Nat) (s':Shared):Prop:=
 z < kS/\∃ H' φ' h' zs ps,Inv X (pins++[(kS,seqObj "list" ks.toArray e),(a,seqObj "list" #[] e1)]) σ H' s'/\φ<+:φ'/\Kp H H'/\RH C φ' H' h'/\aN zs ks/\RVs C φ' H' ps zs/\post C φ' H' (gU f b ys (ys.drop ks.length) ps h') Q
section
variable {x:Str} {st:Stmt} {q:Addr} {fd:c5} {pn:List Str} {j:Nat} {f:Fn}
theorem KB {pins:List (Addr×Obj)} {σ:St} {φ:List Addr} {H:Hp} {b:Bool} {ys:List PV} {us:List V} {its:List Value} {Q:VK} {a:Addr} (c:Cxt C k X) (D:Def C.K X.mg x st q fd pn) (G:aY X.prog X.w C.K X.mg X.base CX0 j q fd pn (spM C 1 f)) (hj:j+2<=k)
  (ry:RVs C φ H ys us) (rv:aN us its) {A':Around} (eA:A'=X.A.in1.in1) (fr:∀ kS,a<=kS->X.s₀.heap.objs.size<=kS/\kS≠X.env.locals/\(∀ x c,X.env.cells.lookup x=some c->c≠kS)/\(∀ p∈X.pn++pins,p.1≠kS)/\kS∉X.fs)
  (kS:Addr) (e1:Nat) (ks:List Value) (e:Nat) (s':Shared) (y:Value) (hy:its[ks.length]?=some y) (hJ:QR C X pins σ φ H f b ys Q a a kS e1 ks e s'):
  wpAny (model X.prog X.w) A' (call (.ref q) [y]) (fun v s''=>s''.heap.get? kS=some (seqObj "list" ks.toArray e)/\∀ (h':Heap) e',gd kS s''.heap h'->h'.get? kS=some (seqObj "list" (ks++[v]).toArray e')->QR C X pins σ φ H f b ys Q a a kS e1 (ks++[v]) e' { s'' with heap:=h' }) (fun _ _=>False) s':=by
 subst eA;obtain ⟨hz,H',φ',h',zs,ps,I,pp,tt,rh,rz,rp,po⟩:=hJ;have hlt:ks.length < its.length:=(ab.mp hy).1;have hlu:us.length=its.length:=rv.length;have hly:ys.length=us.length:=ry.length;have gy:ys[ks.length]?=some (ys[ks.length]'(by omega)):=by simp
 obtain ⟨u,hu,ru⟩:=ry.at gy;obtain ⟨y',hy',ryv⟩:=rv.get hu;rw [hy] at hy';cases hy'
 have hd:ys.drop ks.length=ys[ks.length]'(by omega) :: ys.drop (ks.length+1):=drop_cons gy;rw [hd] at po;have e1':=c.K;have G':aY X.prog X.w X.K X.mg X.base CX0 j q fd pn (spM C 1 f):=by rw [e1']; exact G
 have D':Def X.K X.mg x st q fd pn:=by rw [e1']; exact D
 have sp1:spM C 1 f [u] H' (fun v H2=>∃ φ2 p h2,φ'<+:φ2/\Kp H' H2/\RH C φ2 H2 h2/\RV C φ2 H2 p v/\post C φ2 H2 (gU f b ys (ys.drop (ks.length+1)) (ps++[p]) h2) Q) E0:=
  ⟨φ',h',[ys[ks.length]'(by omega)],rh,⟨ru.mono pp tt,trivial⟩,rfl,post.bind po⟩
 have hl:([y]:List Value).length=pn.length:=G'.len _ _ _ _ sp1;refine wpAny_call (codeAny_mono (G'.run X.A.in1.in1 X.stack s' H' ⟨[y],[]⟩ [y] [u] _ E0 ((c.room.mono hj).in1.in1) I.env0.in1.in1 (by
  have:=D'.bd s' [y] I.kIn (by simpa using hl)
  simpa using this) (.cons ryv .nil) sp1) fun r s2 hq=>?_)
 cases r with
 | error e=>exact hq.elim
 | ok fl=>
  cases fl with
  | next=>exact f9 hq
  | brk=>exact f9 hq
  | cont=>exact f9 hq
  | ret v=>
   obtain ⟨x2,H2,I2,rx2,φ2,p2,h2,pp2,tt2,rh2,rp2,po2⟩:=I.after hq;have gk:=I2.pin (kS,seqObj "list" ks.toArray e) (ao _ (ao _ ak));have ga:=I2.pin (a,seqObj "list" #[] e1) (ao _ (ao _ (aq _ ak)));refine ⟨gk.1,fun g e' sb he'=>?_⟩;have fk:=fr kS (iw hz);have nak:a≠kS:=a9 hz;have I3:Inv X (pins++[(a,seqObj "list" #[] e1)]) σ H2 s2:=I2.pins_of fun p hp=>(ba.mp hp).elim (fun z=>I2.pin p (ao _ (fc _ z))) fun z=>by
    rw [bj.mp z]; exact ga
   have I4:=I3.turned (t':=s2.toks) (it:=kS) (h':=g) (fun b' o' hb hq=>(sb.2 b' hb).trans hq) gk.2.1 fk.2.1 (.inr fk.1) fk.2.2.1 (fun p hp=>by
    rcases ba.mp hp with hp | hp
    ·exact fk.2.2.2.1 p (fc _ hp)
    ·rcases ba.mp hp with hp | hp
     ·exact fk.2.2.2.1 p (ao _ hp)
     ·rw [bj.mp hp]; exact nak)
   refine ⟨hz,H2,φ2,h2,zs++[x2],ps++[p2],I4.pins_of fun p hp=>?_,pp.trans pp2,tt.trans tt2,rh2,rz.append (.cons rx2 .nil),(rp.mono pp2 tt2).snoc rp2,?_⟩
   ·rcases ba.mp hp with hp | hp
    ·exact I4.pin p (ao _ (fc _ hp))
    ·rcases bc.mp hp with rfl | hp
     ·exact ⟨he',gk.2.1,fk.2.1,fk.2.2.2.2,gW⟩
     ·rw [bj.mp hp];exact I4.pin _ (ao _ (ao _ ak))
   ·rw [c8];exact po2
theorem Ci {b:Bool} {kss:List (List Key)} {ys:List PV} {S:List Bool} (hl:kss.length=ys.length) (hs:∀ y∈kss,shape y=S) (nd:kss.Nodup) {p:List Nat} (hp:p.Perm (ax ys.length))
  (ho:p.Pairwise (fun i j=>(if b then bR (kss.getD i []) (kss.getD j []) else bR (kss.getD j []) (kss.getD i []))=false)):p.map (fun i=>ys.getD i .non)=(md b (fZ (kss.zip ys))).map (·.2):=by
 let zs:=kss.zip ys;have hzl:zs.length=ys.length:=by show (kss.zip ys).length=_; simp [hl]
 have hin:∀ i∈p,i < ys.length:=fun i hi=>by simpa using hp.mem_iff.mp hi
 have eg:∀ i,i < ys.length->zs.getD i ([],.non)=(kss.getD i [],ys.getD i .non):=fun i hi=>by
  have h1:i < kss.length:=by omega
  have h2:i < zs.length:=by omega
  have h3:(kss.zip ys)[i]?=some (kss[i],ys[i]):=by
   rw [List.getElem?_zip_eq_some];exact ⟨by simp [h1],by simp [hi]⟩
  show (kss.zip ys).getD i _=_
  simp [h1,hi,h3]
 have hpz:(p.map fun i=>zs.getD i ([],.non)).Perm zs:=yO (by rw [hzl]; exact hp);have hm:zs.map (·.1)=kss:=by
  show (kss.zip ys).map Prod.fst=kss
  exact List.map_fst_zip (by omega)
 have hsz:∀ y∈zs,shape y.1=S:=fun y hy=>hs _ (by rw [<- hm]; exact az.mpr ⟨y,hy,rfl⟩);have e2:p.map (fun i=>ys.getD i .non)=(p.map fun i=>zs.getD i ([],.non)).map (·.2):=by
  rw [bq];exact dw fun i hi=>by show _=(zs.getD i _).2; rw [eg i (hin i hi)]
 rw [e2];have key:∀ (R:Nat->Nat->Bool),p.Pairwise (fun i j=>R i j=false)->(∀ i j,i < ys.length->j < ys.length->R i j=bR (zs.getD j ([],.non)).1 (zs.getD i ([],.non)).1)->(p.map fun i=>zs.getD i ([],.non)).Pairwise (fun x y=>bR y.1 x.1=false):=fun R h1 h2=>by
  rw [c7];exact h1.imp_of_mem fun {i j} hi hj h=>by rw [<- h2 i j (hin i hi) (hin j hj)]; exact h
 cases b with
 | false=>
  congr 1
  refine uT hsz (by rw [hm]; exact nd) hpz (key (fun i j=>bR (kss.getD j []) (kss.getD i [])) ho fun i j hi hj=>by rw [eg i hi,eg j hj])
 | true=>
  congr 1
  have hr:(p.map fun i=>zs.getD i ([],.non)).reverse=fZ zs:=by
   refine uT hsz (by rw [hm]; exact nd) ((List.reverse_perm _).trans hpz) ?_;rw [List.pairwise_reverse,c7];exact ho.imp_of_mem fun {i j} hi hj h=>by
    rw [eg i (hin i hi),eg j (hin j hj)];exact h
  show _=(fZ zs).reverse
  rw [<- hr,List.reverse_reverse]
theorem uV {b:Bool} {kw:List (Str×Value)} (c:Cxt C k X) (D:Def C.K X.mg x st q fd pn) (G:aY X.prog X.w C.K X.mg X.base CX0 j q fd pn (spM C 1 f)) (hj:j+2<=k)
  (ha1:∀ v,argsOk "sorted" ⟨[v],kw⟩) (ha2:∀ v,argsOk "list.sort" ⟨[.ref v],kw⟩) (ht:∀ v,Builtin.«list.sort» ⟨[.ref v],kw⟩=ksk_tree v (.ref q) b)
  {pins:List (Addr×Obj)} {s:Shared} {σ:St} {H:Hp} {Q:VK} {v:V} {u:Value} (I:Inv X pins σ H s) (ru:RelV v u) (h:r1 C (jX f b) v H Q):
  wpAny (model X.prog X.w) X.A (call (.builtin "sorted") [u] kw) (EP X pins σ Q) X.xe s:=by
 obtain ⟨φ,h,p,rh,rp,po⟩:=h;unfold jX at po;cases ei:iA p h with
 | none=>rw [ei] at po; exact po.elim
 | some ys=>
 rw [ei] at po;obtain ⟨h64,po⟩:=po.ite;refine call_function_entry_kw kind_sorted plain_sorted entry_sorted (ha1 u) ?_;unfold Builtin.«sorted»;refine aa (m:=checkCount "sorted" 1 1 _) (ag ?_);have col:wpAny (model X.prog X.w) X.A.in1 (collect u) (fun its s1=>∃ us,Inv X pins σ H s1/\aN us its/\RVs C φ H ys us) X.xe s:=by
  have lcase:∀ {a:Addr} {vs:List V},v=.ref a->SqL C.K H a vs->RVs C φ H ys vs->wpAny (model X.prog X.w) X.A.in1 (collect u) (fun its s1=>∃ us,Inv X pins σ H s1/\aN us its/\RVs C φ H ys us) X.xe s:=fun {a vs} ev sa ra=>by
   subst ev;cases ru
   have sa':SqL X.K H a vs:=by rw [c.K]; exact sa
   obtain ⟨its,rv,pl,hz⟩:=I.list sa';refine collect_list pl.isList ?_ (by have:=rv.length; have:=ra.length; rw [c3]; omega);exact ⟨vs,I.kept (t':=s.toks) fun b o e=>by
    have hlt:b < s.heap.objs.size:=aw e
    first
     | (rw [jr _ _ _ _ (a9 hlt),jg _ _ _ (a9 hlt)]; exact e)
     | exact ah _ e,rv,ra⟩
  unfold iA at ei;split at ei
  ·rename_i n;split at ei
   ·rename_i ys' e;cases ei
    obtain ⟨a,ev,ha⟩:=rp;obtain ⟨a2,vs,ha2,sa,ra⟩:=bP rh e;rw [ha] at ha2; cases ha2;exact lcase ev sa ra
   ·unfold uS at ei;split at ei
    ·rename_i d hv;obtain ⟨a,ev,ha⟩:=rp;subst ev;cases ru
     obtain ⟨bb,hb,hH⟩:=rh.at' n a _ ha hv;obtain ⟨hT,hm,hz,oc,es,ep,g1,g2,ws,r1,r2⟩:=Cf c I rh hb ei;have hvv:s.heap.IsValuesView a bb:=(I.hok a _ hH).1;have hn:es.size<=au:=by
      have e1:=r1.length;have e2:ws.length=es.size:=by have:=r2.length; simpa using this
      rw [<- e2,<- e1]; exact hz
     refine PySem.W.kdu_collect (JU (r:=a) g2) (I.ok.hd c.calm) ⟨hvv,g1⟩ hn fun h' tk acc hk hacc=>?_;exact ⟨ws,I.kept (t':=tk) hk,by rw [KA hacc]; exact r2,r1⟩
    ·cases ei
  ·cases ei
   obtain ⟨a,vs,ev,sa,ra⟩:=rp;exact lcase ev sa.sq ra
  ·cases ei
 refine aa (f7 col (fun its s1 hh=>?_) fun _ _ z=>z);obtain ⟨us,I1,rv,ry⟩:=hh;have hlu:us.length=its.length:=rv.length;have hly:ys.length=us.length:=ry.length;refine aa (wpAny_newList ?_ (by rw [c3]; omega));have hoL:(s1.heap.push (seqObj "list" its.toArray 0)).get? s1.heap.objs.size=some (seqObj "list" its.toArray 0):=ay _ rfl;have keep:∀ b o,s1.heap.get? b=some o->b≠s1.heap.objs.size/\(s1.heap.push (seqObj "list" its.toArray 0)).get? b=some o:=fun b o q=>⟨a9 (aw q),ah _ q⟩;have fr:∀ kS,s1.heap.objs.size<=kS->X.s₀.heap.objs.size<=kS/\kS≠X.env.locals/\(∀ x c,X.env.cells.lookup x=some c->c≠kS)/\(∀ p∈X.pn++pins,p.1≠kS)/\kS∉X.fs:=fun kS hk=>uU I1 hk
 show wpAny _ _ _ _ _ { s1 with heap:=s1.heap.push (seqObj "list" its.toArray 0) }
 refine aa (da (wpAny_call_entry_kw slot_list_sort ⟨_,hoL,rfl⟩ entry_list_sort ?body (ha2 _)))
 case body=>
  show wpAny (model X.prog X.w) X.A.in1.in1 (Builtin.«list.sort» ⟨[.ref s1.heap.objs.size],kw⟩) _ _ _
  rw [ht s1.heap.objs.size];refine Ec (s:={ s1 with heap:=s1.heap.push (seqObj "list" its.toArray 0) }) (a:=s1.heap.objs.size) (κ:=tuples' true) (vs:=its) hoL (by omega) (QR C X pins σ φ H f b ys Q s1.heap.objs.size s1.heap.objs.size) ?h0 ?hget ?turn ?fin
  case h0=>
   intro kS e1 h' kp hk g1 g2;have hk':s1.heap.objs.size < kS:=by
    have:(s1.heap.push (seqObj "list" its.toArray 0)).objs.size<=kS:=hk;rw [jz] at this;exact this
   have I2:Inv X pins σ H { s1 with heap:=h' }:=I1.kept (t':=s1.toks) fun b o q=>kp b o (keep b o q).1 (keep b o q).2;have fk:=fr kS (iw hk');have fa:=fr s1.heap.objs.size (ai _);refine ⟨hk',H,φ,h,[],[],I2.pins_of fun p hp=>?_,av,Kp.refl H,rh,.nil,trivial,po⟩;rcases ba.mp hp with hp | hp
   ·exact I2.pin p (ao _ hp)
   ·rcases bc.mp hp with rfl | hp
    ·exact ⟨g2,I1.hok.fresh (iw hk'),fk.2.1,fk.2.2.2.2,gW⟩
    ·rw [bj.mp hp];exact ⟨g1,I1.hok.fresh (ai _),fa.2.1,fa.2.2.2.2,gW⟩
  case hget=>
   rintro kS e1 ks e s' ⟨hz,H',φ',h',zs,ps,I',_⟩;exact ⟨Nat.ne_of_gt hz,(I'.pin (s1.heap.objs.size,seqObj "list" #[] e1) (ao _ (ao _ (aq _ ak)))).1,(I'.pin (kS,seqObj "list" ks.toArray e) (ao _ (ao _ ak))).1⟩
  case turn=>
   intro kS e1 ks e s' y hy hJ;exact KB c D G hj ry rv rfl fr kS e1 ks e s' y hy hJ
  case fin=>
   rintro kS e1 ks e s' hl ⟨hz,H',φ',h',zs,ps,I',pp,tt,rh',rz,rp',po'⟩;have hd:ys.drop ks.length=[]:=List.drop_eq_nil_of_le (by omega);rw [hd] at po';unfold gU at po';cases es:sortBy b ps ys with
   | none=>rw [es] at po'; exact po'.elim
   | some out=>
   rw [es] at po';unfold sortBy at es;split at es
   ·rename_i kss ek;split at es
    ·rename_i hc;obtain ⟨hc1,hc2,hc3,hc4⟩:=hc;cases es
     have ep:=uQ ek;subst ep;obtain ⟨bb,sh,hsh⟩:=mI hc3;have rr:cG X.K H' (kss.map tD) zs:=by rw [c.K]; exact oB.mp rp'
     have tk:=lZ I' rr rz;have shOf:∀ i,i < its.length->shape (kss.getD i [])=bb :: sh:=fun i hi=>by
      have hi':i < kss.length:=by omega
      have:kss.getD i []=kss[i]:=by simp [hi']
      rw [this];exact hsh _ (ee hi')
     refine ⟨fun i j=>bR (kss.getD i []) (kss.getD j []),fun i j k hi hj hk h1 h2=>?_,fun i j _ _ h=>nK h,fun h2 Q' E' hq=>?_,fun i j hi hj Q' hq=>?_,fun p g e2 a1 a2 kp he gk=>?_⟩
     ·exact kO ((shOf i hi).trans (shOf j hj).symm) ((shOf j hj).trans (shOf k hk).symm) h1 h2
     ·exact yN tk hsh (by omega) hq
     ·obtain ⟨a,ua,q1,p1,r1⟩:=tk.get (i:=i) (by omega);obtain ⟨d,ud,q2,p2,r2⟩:=tk.get (i:=j) (by omega);rw [q1,q2];exact tV p1 p2 r1 r2 ((shOf i hi).trans (shOf j hj).symm) hq
     ·have hin:∀ i∈p,i < its.length:=fun i hi=>by simpa using a1.mem_iff.mp hi
      have fa:=fr s1.heap.objs.size (ai _);have fk:=fr kS (iw hz);have gka:=I'.pin (kS,seqObj "list" ks.toArray e) (ao _ (ao _ ak));have gaa:=I'.pin (s1.heap.objs.size,seqObj "list" #[] e1) (ao _ (ao _ (aq _ ak)));have I5:Inv X pins σ H' s':=I'.unpinned;have I6:=I5.adopt (a:=s1.heap.objs.size) (d:=kS) (o:=.lst (p.map fun i=>us.getD i .non)) (h':=g) gaa.2.1 gka.2.1 fa fk (fun x o h1 h2 q=>kp x o h1 h2 q) (by
       refine ⟨?_,p.map (fun i=>its.getD i cq),e2,pW rv (fun i hi=>by have:=hin i hi; omega),he⟩;rw [ae,a1.length_eq,jh,c3];omega)
      refine ⟨_,rfl,ag ⟨_,rfl,.ref s1.heap.objs.size,_,I6,rfl,?_⟩⟩;refine po'.lnew rh' ?_ gaa.2.1;rw [<- Ci (b:=b) hc2 hsh hc4 (p:=p) (by rw [hly,hlu]; exact a1) a2];exact (ry.mono pp tt).pick (fun i hi=>by have:=hin i hi; omega)
    ·cases es
   ·cases es
end
section
variable {kf:Str} {st:Stmt} {q:Addr} {fd:c5} {pn:List Str} {j jb:Nat} {f:Fn} {e:Expr} {me:Me} {p pos kp kpos rp rpos:Pos}
theorem Cj {Q:VK} {b:Bool} {σ:St} {H:Hp} (h:rd C (qE f b me) σ H Q):Jw (rd C me) Q7 σ H fun vs H1=>∃ x,vs=[x]/\r1 C (jX f b) x H1 Q:=by
 obtain ⟨φ,δ,h,rh,re,po⟩:=h;refine ⟨φ,δ,h,rh,re,(post.bind po).imp ?_⟩;rintro v H1 ⟨φ1,x,h1,p1,t1,rh1,rv1,q1⟩;exact ⟨v,rfl,φ1,h1,x,rh1,rv1,q1⟩
theorem NP (D:Def C.K X.mg kf st q fd pn) (G:aY X.prog X.w C.K X.mg X.base CX0 j q fd pn (spM C 1 f)) (he:SE C k X e me) (hb:("sorted" : Str)∈C.bs) (hj:j+2<=k:=by decide) (hg:Gl X "sorted" := by rfl) (hgk:Gl X kf:=by rfl) (hdk:(kf == ("__debug__" : Str))=false:=by decide)
  (hst:bz [e] X.env=(false,eval e X.env) :: bz [] X.env:=by rfl) (hbk:backTo pos (bz [e] X.env)=(false,eval e X.env) :: backTo pos (bz [] X.env):=by rfl) (hpl:(backTo pos (bz [e] X.env)).any (·.1)=false:=by rfl):
  SE C k X (.Call (.Name "sorted" p) [e] [⟨some "key",.Name kf kp,kpos⟩] pos) (qE f false me):=fun c pins s σ H Q I h=>by
 refine ix (pL I hg (c.bn _ hb) PyProof.Rows.Boot.«sorted» ?_ (by decide) (by decide));refine callWith_kw (thn (sS (he c) Ad hst pos pins s σ H _ I (Cj h)) fun us s1 hh=>?_) hbk hpl;obtain ⟨vs,H1,I1,rv,x,rfl,r⟩:=hh;obtain ⟨u,rfl,ru⟩:=vals1 rv;refine kws_cons (sR I1 hgk D.mg (kws_nil ?_) hdk)
 show wpAny _ _ (call (.builtin "sorted") [u] [(jk "key",.ref q)]) _ _ _
 exact uV c D G hj (fun v=>ksk_s1 _ _) (fun v=>ksk_l1 _ _) (fun v=>ksk_t1 _ _) I1 ru r
theorem KC {b:Bool} (D:Def C.K X.mg kf st q fd pn) (G:aY X.prog X.w C.K X.mg X.base CX0 j q fd pn (spM C 1 f)) (he:SE C k X e me) (hb:("sorted" : Str)∈C.bs) (hj:j+2<=k:=by decide) (hg:Gl X "sorted" := by rfl) (hgk:Gl X kf:=by rfl) (hdk:(kf == ("__debug__" : Str))=false:=by decide)
  (hst:bz [e] X.env=(false,eval e X.env) :: bz [] X.env:=by rfl) (hbk:backTo pos (bz [e] X.env)=(false,eval e X.env) :: backTo pos (bz [] X.env):=by rfl) (hpl:(backTo pos (bz [e] X.env)).any (·.1)=false:=by rfl):
  SE C k X (.Call (.Name "sorted" p) [e] [⟨some "key",.Name kf kp,kpos⟩,⟨some "reverse",.Constant (.bool b) jb rp,rpos⟩] pos) (qE f b me):=fun c pins s σ H Q I h=>by
 refine ix (pL I hg (c.bn _ hb) PyProof.Rows.Boot.«sorted» ?_ (by decide) (by decide));refine callWith_kw (thn (sS (he c) Ad hst pos pins s σ H _ I (Cj h)) fun us s1 hh=>?_) hbk hpl;obtain ⟨vs,H1,I1,rv,x,rfl,r⟩:=hh;obtain ⟨u,rfl,ru⟩:=vals1 rv;refine kws_cons (sR I1 hgk D.mg (kws_cons (Constant_bool (kws_nil ?_))) hdk)
 show wpAny _ _ (call (.builtin "sorted") [u] [(jk "key",.ref q),(jk "reverse",.bool b)]) _ _ _
 exact uV c D G hj (fun v=>ksk_s2 _ _ _) (fun v=>ksk_l2 _ _ _) (fun v=>ksk_t2 _ _ _) I1 ru r
end
end
end L2
namespace L2
open PySem
section
variable {α:Type} (key:α->List Key)
noncomputable def Hz (x:α):List α->List α
 | []=>[x]
 | y :: ys=>if bR (key y) (key x)=true then y :: Hz x ys else x :: y :: ys
noncomputable def jY:List α->List α
 | []=>[]
 | x :: xs=>Hz key x (jY xs)
variable {key}
theorem zE (x:α):∀ ys,(Hz key x ys).Perm (x :: ys)
 | []=>.refl _
 | y :: ys=>by
  unfold Hz;split
  ·exact ((zE x ys).cons y).trans (.swap x y ys)
  ·exact .refl _
theorem mK:∀ xs,(jY key xs).Perm xs
 | []=>.refl _
 | x :: xs=>(zE x _).trans ((mK xs).cons x)
theorem Ck (f:α->PV) (x:α):∀ ys:List α,rW (key x,f x) (ys.map fun y=>(key y,f y))=(Hz key x ys).map fun y=>(key y,f y)
 | []=>rfl
 | y :: ys=>by
  rw [a7];unfold rW Hz;dsimp only;split
  ·rw [Ck f x ys]; rfl
  ·rfl
theorem qF (f:α->PV):∀ xs:List α,fZ (xs.map fun y=>(key y,f y))=(jY key xs).map fun y=>(key y,f y)
 | []=>rfl
 | x :: xs=>by
  rw [a7];unfold fZ jY;rw [qF f xs,Ck]
theorem AM {S:List Bool} (f:α->PV) {xs:List α} (hs:∀ x∈xs,shape (key x)=S):(jY key xs).Pairwise (fun a b=>bR (key b) (key a)=false):=by
 have h:=hZ (S:=S) (xs:=xs.map fun y=>(key y,f y)) (fun y hy=>by
  obtain ⟨x,hx,rfl⟩:=az.mp hy;exact hs x hx)
 rw [qF,c7] at h;exact h
theorem Cm {β γ:Type} (f:α->β) (g:α->γ):∀ xs:List α,(xs.map f).zip (xs.map g)=xs.map fun x=>(f x,g x)
 | []=>rfl
 | x :: xs=>by simp [Cm f g xs]
theorem KD {b:Bool} {f:α->PV} {xs:List α} (h1:xs.length < 64) (h3:lN (xs.map key)=true) (h4:(xs.map key).Nodup):sortBy b ((xs.map key).map tP) (xs.map f)=some ((md b (jY key xs)).map f):=by
 rw [Hy (by simpa using h1) (by simp) h3 h4,Cm,qF]
 cases b with
 | false=>
  show some (((jY key xs).map fun y=>(key y,f y)).map Prod.snd)=some ((jY key xs).map f)
  rw [bq]; rfl
 | true=>
  show some ((((jY key xs).map fun y=>(key y,f y)).reverse).map Prod.snd)=some ((jY key xs).reverse.map f)
  rw [<- List.map_reverse,bq]; rfl
theorem KF {f:Fn} {b:Bool} {emb:α->PV} {ys zs:List PV} {Q:PV->PH->Prop}:∀ (r done:List α) (h:PH),(∀ d∈r,∀ h (Q:PV->PH->Prop),(∀ h',Ext h h'->Q (tP (key d)) h')->(f [emb d] h).W Q)->
  sortBy b (((done++r).map key).map tP) ys=some zs->(∀ h',Ext h h'->Q (.ref h'.length) (h'++[.lst zs]))->(gU f b ys (r.map emb) ((done.map key).map tP) h).W Q
 | [],done,h,_,hs,k=>by
  rw [lp] at hs;simp only [List.map_nil,gU,hs,dN];exact k h (Ext.refl h)
 | x :: r,done,h,hf,hs,k=>by
  rw [a7];unfold gU;rw [AC];refine hf x ak h _ fun h1 x1=>?_;have e:(done.map key).map tP++[tP (key x)]=((done++[x]).map key).map tP:=by simp
  rw [e];exact KF r (done++[x]) h1 (fun d hd=>hf d (aq _ hd)) (by rw [List.append_assoc]; exact hs) fun h' x2=>k h' (x1.trans x2)
theorem Gp {f:Fn} {b:Bool} {emb:α->PV} {xs:List α} {x:PV} {h:PH} {Q:PV->PH->Prop} {S:List Bool} (e:iA x h=some (xs.map emb)) (h1:xs.length < 64) (h3:lN (xs.map key)=true) (hs:∀ x∈xs,shape (key x)=S) (h4:(xs.map key).Nodup)
  (hf:∀ d∈xs,∀ h (Q:PV->PH->Prop),(∀ h',Ext h h'->Q (tP (key d)) h')->(f [emb d] h).W Q)
  (k:∀ (os:List α) h',Ext h h'->os.Perm xs->os.Pairwise (fun p q=>(if b then bR (key p) (key q) else bR (key q) (key p))=false)->Q (.ref h'.length) (h'++[.lst (os.map emb)])):(jX f b x h).W Q:=by
 unfold jX;rw [e];dsimp only;rw [if_pos (by simpa using h1)]
 refine KF (key:=key) xs [] h hf (KD h1 h3 h4) fun h' hx=>k _ h' hx ?_ ?_
 ·cases b with
  | false=>exact mK xs
  | true=>exact (List.reverse_perm _).trans (mK xs)
 ·have hp:=AM emb hs;cases b with
  | false=>exact hp
  | true=>
   show ((jY key xs).reverse).Pairwise _
   rw [List.pairwise_reverse];exact hp
end
section
variable {δ:Ev} {h:PH} {m:Me}
@[simp] theorem RN {f:Fn} {b:Bool}:qE f b m δ h=(m δ h).bind fun x h1=>jX f b x h1:=(rfl)
theorem Er {n:Nat} {xs:List PV} (e:h[n]?=some (.lst xs)):iA (.ref n) h=some xs:=by simp [iA,aP,e]
theorem zF {n:Nat} {kvs:List (PV×PV)} (e:cM h n=some kvs):iZ h n=some (kvs.map (·.2)):=by
 unfold cM at e;split at e
 ·rename_i q; cases e; simp [iZ,q]
 ·rename_i q; cases e; simp [iZ,q]
 ·cases e
theorem gE {n:Nat} {kvs:List (PV×PV)} (e:cM h n=some kvs):∃ o,h[n]?=some o/\eD (.ref n) h=true/\∀ h',h'[n]?=some o->cM h' n=some kvs:=by
 unfold cM at e;split at e
 ·rename_i q; cases e; exact ⟨_,q,by simp [eD,q],fun h' e=>by simp [cM,e]⟩
 ·rename_i q; cases e; exact ⟨_,q,by simp [eD,q],fun h' e=>by simp [cM,e]⟩
 ·cases e
theorem gF {h':PH} {n:Nat} {kvs:List (PV×PV)} (x:Ext h h') (e:cM h n=some kvs):cM h' n=some kvs:=by
 obtain ⟨o,g,_,k⟩:=gE e;exact k h' (x _ _ g)
theorem Cn {n d:Nat} {kvs:List (PV×PV)} (e:h[n]?=some (.vw 1 d)) (e2:cM h d=some kvs):iA (.ref n) h=some (kvs.map (·.2)):=by
 have e1:aP h n=none:=by simp [aP,e]
 simp only [iA,e1,uS,e];exact zF e2
theorem NQ {d:Nat} {kvs:List (PV×PV)} (e:cM h d=some kvs):Cg (.ref d) [] h=.ok (.ref h.length) (h++[.vw 1 d]):=by simp [Cg,zF e]
theorem KG {n:Nat} {kvs:List (PV×PV)} {xs:List PV} {z:PV} (e:cM h n=some kvs) (hk:(PV.tup xs).ky 6=true) (hl:kvs.length < 16777216):sN (.ref n) (.tup xs) z h=some (h.set n (.dD (dO kvs (.tup xs) z))):=by
 have k1:(PV.tup xs).isKt=true:=hk;have hl':kvs.length < au:=by rw [nV]; exact hl
 unfold sN;simp only [nO,k1,if_true,e];rw [if_pos hl']
theorem HA {n:Nat} {kvs:List (PV×PV)} {xs:List PV} (e:cM h n=some kvs) (hk:(PV.tup xs).ky 6=true):iY (.tup xs) (.ref n) h=.ok (.bl (!(aV kvs (.tup xs)).isSome)) h:=by
 have k1:(PV.tup xs).isKt=true:=hk;have:jM (.tup xs) (.ref n) h=some (aV kvs (.tup xs)):=by simp only [jM,k1,if_true,e,Option.map_some]
 unfold iY;rw [this]
theorem HB {n:Nat} {kvs:List (Key×PV)} {x:Str} {z:PV} (e:h[n]?=some (.dK kvs)) (hl:kvs.length < 16777216):
  kR (.ref n) [.str x,z] h=match aV kvs (.inr x) with | some p=>.ok p h | none=>.ok z (h.set n (.dK (dO kvs (.inr x) z))):=by
 have hl':kvs.length < au:=by rw [nV]; exact hl
 unfold kR;simp only [nO,e];cases aV kvs (.inr x) with
 | some p=>rfl
 | none=>simp only [if_pos hl']
@[simp] theorem QS {xs:List PV}:jT (.tup xs)=false:=(rfl)
@[simp] theorem QT:jT .non=true:=(rfl)
end
section
variable {δ:Ev} {h h1:PH} {js:List (Option Nat)} {tg:Mg} {elt:Me} {g:PH->Bool}
theorem Ext.setN {h hX:PH} {o:MO} {n:Nat} (x:Ext h hX) (hn:h.length<=n):Ext h (hX.set n o):=fun m o' e=>by
 have:=(ab.mp e).1;rw [a8 (by omega)];exact x m o' e
theorem qG {n m:Nat} {xs ys:List PV} (e1:h[n]?=some (.lst xs)) (e2:h[m]?=some (.lst ys)) (c:xs.length+ys.length<=16777216):bF (.ref n) (.ref m) h=.ok (.ref h.length) (h++[.lst (xs++ys)]):=by
 show JX (.ref n) (.ref m) h=_
 simp [JX,dF,e1,e2,c]
end
end L2
namespace L2
open PySem PySem.Spec PyProof.Rows
noncomputable def Tr (f:Str) (p:PV):List (Str×PV)->List (Str×PV)
 | []=>[(f,p)]
 | (g,x) :: r=>if g=f then (g,p) :: r else (g,x) :: Tr f p r
noncomputable def Ts (x:PV) (h:PH):Option (Nat×Str×List (Str×PV)):=match x with
 | .ref n=>match h[n]? with
  | some (.ins c fs)=>some (n,c,fs)
  | _=>none
 | _=>none
noncomputable def Tt (f:Str) (x y:PV) (h:PH):Option PH:=match Ts x h with
 | some (n,c,fs)=>if fs.length < 1000 then some (h.set n (.ins c (Tr f y fs))) else none
 | none=>none
section
variable {C:MC} {k:Nat} {X:Cx}
section
variable {e o value:Expr} {f:Str} {m mo mv:Me} {pos pos' tpos:Pos}
noncomputable def Vv (f:Str) (mo mv:Me):Ms:=fun δ h=>(mv δ h).fl fun y h1=>(mo δ h1).fl fun x h2=>match Tt f x y h2 with
 | some h3=>.nx δ h3
 | none=>.bad
end
noncomputable def Tu (cn:Str) (n:Nat) (f:Fn) (ms:Ma):Me:=fun δ h=>(ms δ h).bind fun ps h1=>if ps.length=n then (f (.ref h1.length :: ps) (h1++[.ins cn []])).bind fun v h2=>(match v with
 | .non=>.ok (.ref h1.length) h2
 | _=>.bad) else .bad
end
noncomputable def oF (x y v:PV) (h:PH):Option PH:=match x,y with
 | .ref n,.int i=>match dF h n with
  | some xs=>match ixN xs.length i with
   | some j=>some (h.set n (.lst (xs.set j v)))
   | none=>none
  | none=>sN x y v h
 | _,_=>sN x y v h
noncomputable def jK (mv mo mi:Me):Ms:=fun δ h=>(mv δ h).fl fun v h1=>(mo δ h1).fl fun x h2=>(mi δ h2).fl fun y h3=>match oF x y v h3 with
 | some h4=>.nx δ h4
 | none=>.bad
noncomputable def Tv:List PV->PH->Rs PV:=fun xs h=>match xs with
 | [.bl b]=>.ok (.int (if b then 1 else 0)) h
 | [.int i]=>.ok (.int i) h
 | _=>.bad
section
variable {C:MC} {k:Nat} {X:Cx}
theorem Es {φ:List Addr} {H:Hp} {h h':PH} {px py pv:PV} {x y v:V} (c:Cxt C k X) (rh:RH C φ H h) (rx:RV C φ H px x) (ry:RV C φ H py y) (rv:RV C φ H pv v) (e:oF px py pv h=some h') {pins:List (Addr×Obj)} {σ:St} {s:Shared} {xu yu vu:Value}
  {Q:Unit->Shared->Prop} (I:Inv X pins σ H s) (rxu:RelV x xu) (ryu:RelV y yu) (rvu:RelV v vu) (q:∀ s' H',Inv X pins σ H' s'->Kp H H'->RH C φ H' h'->Q () s'):wpAny (model X.prog X.w) X.A (setItem xu yu vu) Q X.xe s:=by
 unfold oF at e;split at e
 ·rename_i n i;split at e
  ·rename_i xs el;split at e
   ·rename_i j ej;cases e
    obtain ⟨a,rfl,ha⟩:=rx;cases ry
    obtain ⟨ws,hH,rw'⟩:=rh.at' n a _ ha (iE el);refine thn (set_list pins s σ H (.ref a) (.int i) v xu yu vu (fun H'=>H'=upd H a (.lst (ws.set j v))) I rxu ryu rvu ⟨a,ws,i,j,rfl,rfl,hH,by rw [<- rw'.length]; exact ej,rfl⟩) ?_;rintro _ s' ⟨H',I',rfl⟩;refine q s' _ I' (Kp.lst hH) (rh.write ha (by rw [hH]; trivial) ⟨_,bJ,(RVs.set rv j rw').mono av (Kp.lst hH)⟩)
   ·cases e
  ·exact zA c rh rx ry rv e I rxu ryu rvu q
 ·exact zA c rh rx ry rv e I rxu ryu rvu q
theorem qH {o i value:Expr} {pos pos':Pos} {mv mo mi:Me} (hv:SE C k X value mv) (ho:SE C k X o mo) (hi:SE C k X i mi) (hs:swapsWith value (some (.Subscript o i pos')) pos.line X.env=pure false:=by rfl):
  SSt C k X (.Assign [.Subscript o i pos'] value pos) (jK mv mo mi):=fun c pins s σ H D I ⟨φ,δ,h,rh,re,p⟩=>by
 refine wpAny_Assign_Subscript (thn (hv c pins s σ H _ I ⟨φ,δ,h,rh,re,post.fl p⟩) ?_) hs;rintro vu s1 ⟨v,H1,I1,rvu,φ1,pv,h1,p1,t1,rh1,rv1,q1⟩;refine thn (ho c pins s1 σ H1 _ I1 ⟨φ1,δ,h1,rh1,re.mono p1 t1,post.fl q1⟩) ?_;rintro xu s2 ⟨x,H2,I2,rxu,φ2,px,h2,p2,t2,rh2,rv2,q2⟩;refine thn (hi c pins s2 σ H2 _ I2 ⟨φ2,δ,h2,rh2,(re.mono p1 t1).mono p2 t2,post.fl q2⟩) ?_;rintro yu s3 ⟨y,H3,I3,ryu,φ3,py,h3,p3,t3,rh3,rv3,q3⟩;cases e:oF px py pv h3 with
 | none=>rw [e] at q3; exact q3.elim
 | some h4=>
  rw [e] at q3;exact Es c rh3 (rv2.mono p3 t3) rv3 ((rv1.mono p2 t2).mono p3 t3) e I3 rxu ryu rvu fun s' H' I' kp rh'=>⟨σ,H',I',q3 φ3 σ H' av kp rh' ((((re.mono p1 t1).mono p2 t2).mono p3 t3).mono av kp)⟩
end
section
variable {δ:Ev} {h:PH} {m mo mv:Me} {E:FE}
@[simp] theorem Tw {cn:Str} {n:Nat} {f:Fn} {ms:Ma}:Tu cn n f ms δ h=(ms δ h).bind fun ps h1=>if ps.length=n then (f (.ref h1.length :: ps) (h1++[.ins cn []])).bind fun v h2=>(match v with | .non=>.ok (.ref h1.length) h2 | _=>.bad) else .bad:=(rfl)
@[simp] theorem Vf {mi:Me}:(jK mv mo mi δ h).W E=(mv δ h).W fun v h1=>(mo δ h1).W fun x h2=>(mi δ h2).W fun y h3=>∃ h4,oF x y v h3=some h4/\E.nx δ h4:=by
 unfold jK;rw [NC]
 congr 1
 funext v h1
 rw [NC]
 congr 1
 funext x h2
 rw [NC]
 congr 1
 funext y h3
 cases e:oF x y v h3 <;> simp
theorem zG {n:Nat} {xs:List PV} {i:Int} {v:PV} (e:h[n]?=some (.lst xs)) (h0:0<=i) (h1:i < xs.length):oF (.ref n) (.int i) v h=some (h.set n (.lst (xs.set i.toNat v))):=by
 have e1:dF h n=some xs:=by simp [dF,e]
 have e2:ixN xs.length i=some i.toNat:=by unfold ixN; rw [if_pos h0,if_pos h1]
 simp [oF,e1,e2]
@[simp] theorem Tx {b:Bool}:Tv [.bl b] h=.ok (.int (if b then 1 else 0)) h:=(rfl)
end
noncomputable def uW:PV->PH->Rs PV:=fun x h=>match cY x h with
 | some xs=>.ok (.ref h.length) (h++[.lst xs.reverse])
 | none=>.bad
section
variable {h:PH}
theorem HC {n:Nat} {xs:List PV} (e:h[n]?=some (.lst xs)):uW (.ref n) h=.ok (.ref h.length) (h++[.lst xs.reverse]):=by simp [uW,cY,aP,e]
end
section
variable {C:MC} {k:Nat} {X:Cx} {e st:Expr} {me:Me} {pos p2:Pos}
theorem NR (he:SE C k X e me) (hs:SE C k X st (mUn Nq (mC (.int 1)))) (hsub:∀ a b:Addr,subscripted (.Slice none none (some st) p2) false (.ref a) (.ref b)=operate [.ref a,.ref b] (getItem (.ref a) (.ref b)):=by intro _ _; with_unfolding_all rfl):SE C k X (.Subscript e (.Slice none none (some st) p2) pos) (mUn uW me):=fun c pins s σ H Q I h=>by
 obtain ⟨φ,δ,h,rh,re,po⟩:=h;refine Subscript_ (thn (he c pins s σ H (fun v H1=>∃ δ φ1 h1 px,RH C φ1 H1 h1/\RE C φ1 H1 δ σ/\RV C φ1 H1 px v/\post C φ1 H1 (uW px h1) Q) I ⟨φ,δ,h,rh,re,(post.bind po).imp ?_⟩) fun v s1 hh=>?_)
 ·rintro v H1 ⟨φ1,x,h1,p1,t1,rh1,rv1,q1⟩;exact ⟨δ,φ1,h1,x,rh1,re.mono p1 t1,rv1,q1⟩
 obtain ⟨x,H1,I1,r1,δ1,φ1,h1,px,rh1,re1,rv1,q1⟩:=hh;refine wpAny_Slice ?_;rw [evalPart_none];refine ag (ag ?_);rw [evalPart_some];refine thn (hs c pins s1 σ H1 (fun v H2=>v=.int (-1)/\∃ φ2,φ1<+:φ2/\Kp H1 H2/\RH C φ2 H2 h1) I1 ⟨φ1,δ1,h1,rh1,re1,?_⟩) fun vk s2 hh=>?_
 ·intro φ' v H' a b c' d;exact ⟨d,φ',a,b,c'⟩
 obtain ⟨y,H2,I2,r2,rfl,φ2,p12,t12,rh2⟩:=hh;obtain ⟨tk,rfl⟩:=r2;unfold uW at q1;cases es:cY px h1 with
 | none=>rw [es] at q1; exact q1.elim
 | some xs=>
  rw [es] at q1;obtain ⟨a,ws,rfl,sa,ra⟩:=dR rh2 (rv1.mono p12 t12) es;cases r1
  have I4:Inv X pins σ H2 { s2 with heap:=s2.heap.push { cls:=.type "slice",data:=.fields #[.none,.none,.int (-1) tk] } }:=I2.kept (t':=s2.toks) fun b ob q=>ah _ q;have sa':SqL X.K H2 a ws:=by rw [c.K]; exact sa
  obtain ⟨its,rw',pl,hz⟩:=I4.list sa';have hlen:=rw'.length;have hg:wpAny (model X.prog X.w) X.A (getItem (.ref a) (.ref s2.heap.objs.size)) (EP X pins σ Q) X.xe { s2 with heap:=s2.heap.push { cls:=.type "slice",data:=.fields #[.none,.none,.int (-1) tk] } }:=by
   refine wpAny_getItem_list_slice pl.isList (Heap.IsSliceOf.new ..) .none .none (.int (-1) tk) (by decide) ?_ (by rw [ar] <;> omega);rw [PySem.W.krv_pick];have hr:∀ {vs:List V} {us:List Value},aN vs us->aN vs.reverse us.reverse:=by
    intro vs us r
    induction r with
    | nil=>exact .nil
    | cons a t ih=>simp only [List.reverse_cons]; exact aN.append ih (.cons a .nil)
   refine ⟨.ref _,_,I4.laid (t':=s2.toks) (o:=.lst ws.reverse) (fun b ob q=>ah _ q) (ai _) ⟨by rw [List.length_reverse]; exact hz,its.reverse,0,hr rw',?_⟩,rfl,(post.weak p12 t12 q1).lnew rh2 ra.reverse (I4.hok.fresh (ai _))⟩;have e:its.toArray.toList.reverse.toArray=its.reverse.toArray:=by simp
   rw [e];exact ay _ rfl
  exact tail_any (ops:=[.ref a,.ref s2.heap.objs.size]) pl.isList.typeIs slot_list_getitem.lookup hg (hsub _ _)
end
noncomputable def uX:List Int->Int
 | []=>0
 | [x]=>x
 | x :: y :: r=>max x (uX (y :: r))
noncomputable def jZ:List Int->Int
 | []=>0
 | [x]=>x
 | x :: y :: r=>min x (jZ (y :: r))
theorem Co:∀ {ns:List Int},ns≠[]->uX ns∈ns/\∀ a∈ns,a<=uX ns
 | [],h=>(h rfl).elim
 | [x],_=>⟨by simp [uX],by simp [uX]⟩
 | x :: y :: r,_=>by
  obtain ⟨h1,h2⟩:=Co (ns:=y :: r) (by simp);unfold uX;refine ⟨?_,fun a ha=>?_⟩
  ·rcases Int.le_total x (uX (y :: r)) with z | z
   ·rw [Int.max_eq_right z]; exact aq _ h1
   ·rw [Int.max_eq_left z]; exact ak
  ·rcases bc.mp ha with rfl | ha
   ·exact Int.le_max_left _ _
   ·exact Int.le_trans (h2 a ha) (Int.le_max_right _ _)
theorem uY:∀ {ns:List Int},ns≠[]->jZ ns∈ns/\∀ a∈ns,jZ ns<=a
 | [],h=>(h rfl).elim
 | [x],_=>⟨by simp [jZ],by simp [jZ]⟩
 | x :: y :: r,_=>by
  obtain ⟨h1,h2⟩:=uY (ns:=y :: r) (by simp);unfold jZ;refine ⟨?_,fun a ha=>?_⟩
  ·rcases Int.le_total x (jZ (y :: r)) with z | z
   ·rw [Int.min_eq_left z]; exact ak
   ·rw [Int.min_eq_right z]; exact aq _ h1
  ·rcases bc.mp ha with rfl | ha
   ·exact Int.min_le_left _ _
   ·exact Int.le_trans (Int.min_le_right _ _) (h2 a ha)
noncomputable def oG:List PV->PH->Rs PV:=fun xs h=>match xs with
 | [.ref n]=>match aP h n with
  | some ys=>match rS ys with
   | some (a :: ns)=>.ok (.int (uX (a :: ns))) h
   | _=>.bad
  | none=>.bad
 | _=>Nw xs h
noncomputable def zH:List PV->PH->Rs PV:=fun xs h=>match xs with
 | [.ref n]=>match aP h n with
  | some ys=>match rS ys with
   | some (a :: ns)=>.ok (.int (jZ (a :: ns))) h
   | _=>.bad
  | none=>.bad
 | _=>Nz xs h
section
variable {C:MC} {k:Nat} {X:Cx}
theorem HE (c:Cxt C k X):bT X (.builtin "max") (fun xs H Q=>∃ (p:Addr) (ns:List Int),xs=[.ref p]/\SqL C.K H p (ns.map V.int)/\ns≠[]/\Q (.int (uX ns)) H):=by
 intro pins s σ H xs us Q I r h;obtain ⟨p,ns,rfl,hq,hne,q⟩:=h;obtain ⟨u,rfl,ru⟩:=vals1 r;cases ru
 rw [<- c.K] at hq;obtain ⟨its,rv,pl,hz⟩:=I.list hq;have hi:IntsAre its ns:=intsAre_of rv;obtain ⟨ys,hy⟩:=hi.allInts.items;have hl:=pl.isList;have hns:ns=ys.toList.map (·.1):=by rw [<- hi.numsOf,<- nums_intItems,<- hy]
 have hsz:0 < ys.size:=by
  have h3:0 < ns.length:=jv.mpr hne;rw [hns,ae,dt] at h3; exact h3
 rw [hy] at hl;refine max_intList (I.ok.hd c.calm) hl hsz fun v h' tk hv hk=>?_;obtain ⟨t,rfl⟩:=intItems_at hv;obtain ⟨h1,h2⟩:=argBest_gt (numAt ys) (ys.size - 1);have hM:numAt ys (argBest (fun i j=>decide (numAt ys i > numAt ys j)) (ys.size - 1))=uX ns:=by
  obtain ⟨m1,m2⟩:=Co hne;refine Int.le_antisymm (m2 _ ?_) ?_
  ·rw [hns,numAt_eq]; exact getD_mem (by rw [ae,dt]; omega)
  ·have ha:=m1;rw [hns] at ha;obtain ⟨j,hj,ej⟩:=mem_getD ha;rw [ae,dt] at hj;rw [<- hns] at ej;rw [<- ej,hns,<- numAt_eq];exact h2 j (by omega)
 rw [hM];exact ⟨.int (uX ns),H,I.kept (t':=tk) hk,⟨_,rfl⟩,q⟩
theorem HF (c:Cxt C k X):bT X (.builtin "min") (fun xs H Q=>∃ (p:Addr) (ns:List Int),xs=[.ref p]/\SqL C.K H p (ns.map V.int)/\ns≠[]/\Q (.int (jZ ns)) H):=by
 intro pins s σ H xs us Q I r h;obtain ⟨p,ns,rfl,hq,hne,q⟩:=h;obtain ⟨u,rfl,ru⟩:=vals1 r;cases ru
 rw [<- c.K] at hq;obtain ⟨its,rv,pl,hz⟩:=I.list hq;have hi:IntsAre its ns:=intsAre_of rv;obtain ⟨ys,hy⟩:=hi.allInts.items;have hl:=pl.isList;have hns:ns=ys.toList.map (·.1):=by rw [<- hi.numsOf,<- nums_intItems,<- hy]
 have hsz:0 < ys.size:=by
  have h3:0 < ns.length:=jv.mpr hne;rw [hns,ae,dt] at h3; exact h3
 rw [hy] at hl;refine min_intList (I.ok.hd c.calm) hl hsz fun v h' tk hv hk=>?_;obtain ⟨t,rfl⟩:=intItems_at hv;obtain ⟨h1,h2⟩:=argBest_lt (numAt ys) (ys.size - 1);have hM:numAt ys (argBest (fun i j=>decide (numAt ys i < numAt ys j)) (ys.size - 1))=jZ ns:=by
  obtain ⟨m1,m2⟩:=uY hne;refine Int.le_antisymm ?_ (m2 _ ?_)
  ·have ha:=m1;rw [hns] at ha;obtain ⟨j,hj,ej⟩:=mem_getD ha;rw [ae,dt] at hj;rw [<- hns] at ej;rw [<- ej,hns,<- numAt_eq];exact h2 j (by omega)
  ·rw [hns,numAt_eq]; exact getD_mem (by rw [ae,dt]; omega)
 rw [hM];exact ⟨.int (jZ ns),H,I.kept (t':=tk) hk,⟨_,rfl⟩,q⟩
theorem Et:gM C k X (.builtin "max") oG:=fun c=>bT.imp (bT.or (SR c) (HE c)) fun vs H Q h=>by
 obtain ⟨φ,h,ps,rh,rv,po⟩:=h;unfold oG at po;split at po
 ·rename_i n;split at po
  ·rename_i ys e;split at po
   ·rename_i a ns en;obtain ⟨v,rfl,rx⟩:=rv.one;obtain ⟨p,rfl,hp⟩:=rx;obtain ⟨p2,ws,hp2,sp,rp⟩:=bP rh e;rw [hp] at hp2; cases hp2;have ew:=sV rp en;subst ew;exact .inr ⟨p,a :: ns,rfl,sp,by simp,po.val rh rfl⟩
   ·exact po.elim
  ·exact po.elim
 ·exact .inl ⟨φ,h,_,rh,rv,po⟩
theorem QU:gM C k X (.builtin "min") zH:=fun c=>bT.imp (bT.or (SV c) (HF c)) fun vs H Q h=>by
 obtain ⟨φ,h,ps,rh,rv,po⟩:=h;unfold zH at po;split at po
 ·rename_i n;split at po
  ·rename_i ys e;split at po
   ·rename_i a ns en;obtain ⟨v,rfl,rx⟩:=rv.one;obtain ⟨p,rfl,hp⟩:=rx;obtain ⟨p2,ws,hp2,sp,rp⟩:=bP rh e;rw [hp] at hp2; cases hp2;have ew:=sV rp en;subst ew;exact .inr ⟨p,a :: ns,rfl,sp,by simp,po.val rh rfl⟩
   ·exact po.elim
  ·exact po.elim
 ·exact .inl ⟨φ,h,_,rh,rv,po⟩
end
section
variable {h:PH}
theorem HG {n:Nat} {a:Int} {ns:List Int} (e:h[n]?=some (.lst ((a :: ns).map PV.int))):zH [.ref n] h=.ok (.int (jZ (a :: ns))) h:=by
 have e1:aP h n=some ((a :: ns).map PV.int):=by simp [aP,e]
 simp only [zH,e1,yY]
@[simp] theorem RP {i j:Int}:oG [.int i,.int j] h=.ok (.int (if j > i then j else i)) h:=(rfl)
@[simp] theorem RQ {i j:Int}:zH [.int i,.int j] h=.ok (.int (if j < i then j else i)) h:=(rfl)
end
theorem AN:typeLookup (.type "list") "keys" = pure none:=by rw [typeLookup_type,builtinLookup_eq_fast]; kernel_rfl
theorem AO {prog:Program} {w:World} {A:Around} {E:Value->Shared->Prop} {s:Shared} {a:Addr} {o:Obj} {xs:Array Value} {k:Nat} {Q:Option Value->Shared->Prop}
  (hx:s.heap.get? a=some o) (hc:o.cls=.type "list") (hdat:o.data=.seq xs k) (hd:o.dict=none) (hA:A.handled=none)
  (h:∀ h' tk,(∀ b u,s.heap.get? b=some u->h'.get? b=some u)->Q none { s with heap:=h',toks:=tk }):wpAny (model prog w) A (getAttr? (.ref a) "keys") Q E s:=by
 obtain ⟨c,dct,dat,sl⟩:=o;simp only at hc hdat hd;subst hc hdat hd;obtain ⟨hp,g,d,tk,os⟩:=s;have hT:∀ tk',(⟨hp,g,d,tk',os⟩:Shared).TypeIs (.ref a) "list" := fun _=>⟨_,hx,rfl⟩;have f1:=sub_AttributeError;have f3:=F.slot_list_getattribute.lookup;have f4:=F.slot_list_getattribute.bind (.ref a);have f5:=am_list_getattr_none;unfold getAttr? getAttrBy? getAttrBy
 repeat (any_goals (first | assumption | exact hT _ | ((with_reducible show wpAny _ _ (call (Value.builtin "list.__getattribute__") _ _) _ _ _); refine call_meets F.slot_list_getattribute (hT _) am_entry_list_getattribute (F.args_list_getattribute_2 _ _) (meets_getattribute_miss_list a xs k sl "keys" _ AN (by decide) (by size_fits)) ⟨hx,hA,fun h' tk' e hx'=>?_⟩) | wp_step))
 obtain ⟨t',u',he⟩:=hx'.there
 show wpAny _ _ (getattributeRaised _ _ _ _ _ _ _) _ _ _
 unfold getattributeRaised
 repeat (any_goals (first | assumption | wp_step))
 exact h _ _ hx'.of.keeps
section
variable {prog:Program} {w:World} {K:Type} [DecidableEq K] {knd:HeapKind prog w K} {A:Around} {R:Result->Shared->Prop}
noncomputable def Cp (xs:List (K×Addr×Value)) (ps:List (Addr×K×Addr×Value)):List (K×Addr×Value):=ps.foldl (fun acc p=>storedH acc p.2.1 p.2.2.1 p.2.2.2) xs
theorem rX (xs:List (K×Addr×Value)) (k:K) (a:Addr) (v:Value):(storedH xs k a v).length<=xs.length+1:=by
 unfold storedH;split
 ·rw [ae]; omega
 ·simp
theorem Cq {xs:List (K×Addr×Value)} {k:K} {a:Addr} {v:Value} {x:K×Addr×Value} (h:x∈storedH xs k a v):(∃ y∈xs,x.1=y.1/\x.2.1=y.2.1)\/(x.1=k/\x.2.1=a):=by
 unfold storedH at h;split at h
 ·obtain ⟨y,hy,rfl⟩:=az.mp h;refine .inl ⟨y,hy,?_,?_⟩
  ·unfold putAt; split <;> rfl
  ·unfold putAt; split <;> rfl
 ·rcases ba.mp h with h | h
  ·exact .inl ⟨x,h,rfl,rfl⟩
  ·rw [bj.mp h]; exact .inr ⟨rfl,rfl⟩
theorem Cr {I d:Addr} {fp wr:List Addr} {n:Nat} {P:Nat->Value->Prop} {St:Nat->Heap->Prop} (W:Walks prog w A.in1 I fp wr n P St) (hd:d∉fp) (hu:knd.room A.in1) (ps:List (Addr×K×Addr×Value)) (hn:ps.length=n)
  (hP:∀ i v,P i v->∃ p,ps[i]?=some p/\v=.ref p.1) (h0:Heap) (hw0:∀ b u,h0.get? b=some u->b∉wr/\b≠d)
  (hk:∀ h',(∀ b u,h0.get? b=some u->h'.get? b=some u)->∀ p∈ps,knd.is h' p.2.1 p.2.2.1/\IsTup h' p.1 #[.ref p.2.2.1,p.2.2.2]) (res:Value):
  ∀ (m i:Nat) (s:Shared) (xs:List (K×Addr×Value)),n - i=m->i<=n->St i s.heap->s.heap.DictOfH knd d xs->(∀ x∈xs,∃ p∈ps,x.1=p.2.1/\x.2.1=p.2.2.1)->xs.length+n<=au+i->(∀ b u,h0.get? b=some u->s.heap.get? b=some u)->
  (∀ h' tk,h'.DictOfH knd d (Cp xs (ps.drop i))->(∀ b u,h0.get? b=some u->h'.get? b=some u)->R (.ok (.ret res)) { s with heap:=h',toks:=tk })->
  codeAny (model prog w) A (.builtin "dict.update.loop" ⟨[.ref d,.ref I,rawInt i,res],[]⟩) R s:=by
 have hdw:d∉wr:=fun h=>hd (W.sub _ h);intro m
 induction m with
 | zero=>
  intro i s xs hm hi hst hdt hxs hz hit hR;have hin:i=n:=by omega
  subst hin;refine ka eW ?_;rw [gz bV _]
  show wpAny _ A.in1 (pyNext (.ref I) >>= _) _ _ s
  refine aa (W.done s _ _ hst fun h' tk hk'=>?_)
  show wpAny _ A.in1 (Builtin.Dict.addKeywords d [] >>= _) _ _ _
  have h00:∀ b u,h0.get? b=some u->h'.get? b=some u:=fun b u e=>hk' b u (hw0 b u e).1 (hit b u e);have hfin:=hR h' tk (by
   rw [List.drop_of_length_le (by omega)];obtain ⟨o,es,ep,h1,h2,h3,h4,h5,h6⟩:=hdt;refine ⟨o,es,ep,hk' d _ hdw h1,h2,h3,h4,fun x hx=>?_,h6⟩;obtain ⟨p,hp,e1,e2⟩:=hxs x hx;rw [e1,e2];exact (hk h' h00 p hp).1) h00
  exact aa (ag (ag hfin))
 | succ m ih=>
  intro i s xs hm hi hst hdt hxs hz hit hR;have hlt:i < n:=by omega
  refine ka eW ?_;rw [gz bV _]
  show wpAny _ A.in1 (pyNext (.ref I) >>= _) _ _ s
  refine aa (W.item i s _ _ hlt hst fun v h' tk hPv hst' hk'=>?_);obtain ⟨p,hp,rfl⟩:=hP i v hPv;have hpm:=cy hp;have h00:∀ b u,h0.get? b=some u->h'.get? b=some u:=fun b u e=>hk' b u (hw0 b u e).1 (hit b u e);obtain ⟨hki,ob,hb1',hb2,nn,hb3⟩:=hk h' h00 p hpm;have hTy:({ s with heap:=h',toks:=tk }:Shared).TypeIs (.ref p.1) "tuple" := ⟨ob,hb1',hb2⟩;have hdt':h'.DictOfH knd d xs:=by
   obtain ⟨o,es,ep,h1,h2,h3,h4,h5,h6⟩:=hdt;refine ⟨o,es,ep,hk' d _ hdw h1,h2,h3,h4,fun x hx=>?_,h6⟩;obtain ⟨p,hp,e1,e2⟩:=hxs x hx;rw [e1,e2];exact (hk h' h00 p hp).1
  refine aa (da (aa (kx ?_)));unfold Builtin.Dict.pairItems;refine aa (lg hTy ?_);rw [if_pos (by decide)];refine aa (wpAny_seqItems hb1' hb3 (ag ?_))
  show wpAny _ _ (holding [.ref p.2.2.1,p.2.2.2] (dictSet d (.ref p.2.2.1) p.2.2.2)) _ _ _
  refine da (wpAny_dictSet_heap (hsz:=by omega) hu hki hdt' fun h2 hd2 hs2=>?_);refine ag ⟨jt bV _,?_⟩;have st2:St (i+1) h2:=W.frame (i+1) h' h2 hst' fun b hb o e=>(hs2.2 b (fun z=>hd (z ▸ hb))).trans e;refine ih (i+1) _ (storedH xs p.2.1 p.2.2.1 p.2.2.2) (by omega) hlt st2 hd2 (fun x hx=>?_) ?_ (fun b u e=>(hs2.2 b (hw0 b u e).2).trans (h00 b u e)) fun h3 tk3 hd3 hk3=>?_
  ·rcases Cq hx with ⟨y,hy,e1,e2⟩ | ⟨e1,e2⟩
   ·rw [e1,e2]; exact hxs y hy
   ·exact ⟨p,hpm,e1,e2⟩
  ·have:=rX xs p.2.1 p.2.2.1 p.2.2.2;omega
  ·refine hR h3 tk3 ?_ hk3;have hdr:ps.drop i=p :: ps.drop (i+1):=by
    obtain ⟨hl,e⟩:=ab.mp hp;rw [jc hl,e]
   rw [hdr];exact hd3
theorem sO {E:Value->Shared->Prop} {s:Shared} {a:Addr} {o:Obj} {k:Nat} {ps:List (Addr×K×Addr×Value)} {Q:Value->Shared->Prop} (hA:A.handled=none) (hu:knd.room A.in1.in1) (hx:s.heap.get? a=some o) (hc:o.cls=.type "list") (hdat:o.data=.seq (ps.map fun p=>dm p.1).toArray k) (hd:o.dict=none)
  (hk:∀ h',(∀ b u,s.heap.get? b=some u->h'.get? b=some u)->∀ p∈ps,knd.is h' p.2.1 p.2.2.1/\IsTup h' p.1 #[.ref p.2.2.1,p.2.2.2]) (hz:ps.length<=au)
  (h:∀ h' tk,h'.DictOfH knd s.heap.objs.size (Cp [] ps)->(∀ b u,s.heap.get? b=some u->h'.get? b=some u)->Q (.ref s.heap.objs.size) { s with heap:=h',toks:=tk }):
  wpAny (model prog w) A (call (.type "dict") [.ref a]) Q E s:=by
 refine callType_codes (Q₁:=fun obj s₁=>obj=.ref s.heap.objs.size/\s₁={ s with heap:=s.heap.push { cls:=.type "dict",data:=.dict #[] } }) F.kt_called_dict (F.kt_typeCall_dict_1 _) F.entry_dict_init (kt_code_dict_new _ ⟨rfl,rfl⟩) ?_;rintro obj s₁ ⟨rfl,rfl⟩;have hnew:(s.heap.push { cls:=.type "dict",data:=.dict #[] }).DictOfH knd s.heap.objs.size []:=Heap.DictOfH.new s.heap;have up:∀ b u,s.heap.get? b=some u->(s.heap.push { cls:=.type "dict",data:=.dict #[] }).get? b=some u:=fun b u e=>ah _ e;have hTa:({ s with heap:=s.heap.push { cls:=.type "dict",data:=.dict #[] } }:Shared).TypeIs (.ref a) "list" := ⟨o,up _ _ hx,hc⟩;refine ⟨hnew.typeIs,F.args_dict_init_2 _ _,?_⟩;unfold Builtin.«dict.__init__»;refine aa ?_; unfold Builtin.Dict.selfAndRest;refine aa (i4 hnew.typeIs (show wpAny _ _ (pure (s.heap.objs.size,[dm a])) _ _ _ from ag ?_))
 show wpAny _ _ (ju "dict.__init__" s.heap.objs.size (.ref a) [] .none) _ _ _
 unfold ju;refine aa (lg hTa ?_);rw [if_pos (by decide)];refine aa (AO (up _ _ hx) hc hdat hd hA fun h1 tk1 kp1=>?_);rw [if_pos (by rfl)];refine aa (jf ?_);have ha1:h1.IsList a (ps.map fun p=>dm p.1).toArray:=⟨o,kp1 _ _ (up _ _ hx),hc,k,hdat⟩;refine aa (km (s:={ s with heap:=h1,toks:=tk1 }) ha1 (ag ⟨jt bV _,?_⟩));have lt0:s.heap.objs.size < h1.objs.size:=by
  have:=kp1 s.heap.objs.size _ (ay s.heap rfl);exact aw this
 have hlt:∀ b u,s.heap.get? b=some u->b < s.heap.objs.size:=fun b u e=>aw e;have ha0:=hlt _ _ hx;refine Cr (knd:=knd) (fp:=[h1.objs.size,a]) (wr:=[h1.objs.size]) (n:=(ps.map fun p=>dm p.1).toArray.size) (Walks.list (A:=A.in1.in1) hA h1.objs.size a (a9 (lj ha0 lt0)) (ps.map fun p=>dm p.1).toArray) ?_ hu ps (by simp) (fun i v e=>?_) s.heap (fun b u e=>?_) hk .none _ 0 _ [] (Nat.sub_zero _) (b8 _) ?_ ?_ (fun x hx=>nomatch hx) (by simpa using hz) (fun b u e=>?_) fun h' tk dd kk=>?_
 ·intro z;rcases bc.mp z with z | z
  ·exact a9 lt0 z
  ·exact a9 ha0 (bj.mp z).symm
 ·have e':(ps.map fun p=>dm p.1)[i]?=some v:=by simpa using e
  rw [aj] at e';obtain ⟨p,hp,rfl⟩:=bf.mp e';exact ⟨p,hp,rfl⟩
 ·have h0:=hlt _ _ e;exact ⟨fun z=>a9 (lj h0 lt0) (bj.mp z),a9 h0⟩
 ·refine ⟨⟨_,ay _ rfl,rfl,rfl⟩,?_⟩;obtain ⟨ob,e,r⟩:=ha1;exact ⟨ob,ah _ e,r⟩
 ·obtain ⟨oo,es,ep,e,r1,r2,r3,r4,r5⟩:=hnew;exact ⟨oo,es,ep,ah _ (kp1 _ _ e),r1,r2,r3,(fun x hx=>nomatch hx),r5⟩
 ·exact ah _ (kp1 _ _ (up _ _ e))
 ·exact ⟨rfl,h h' tk (by simpa using dd) kk⟩
end
section
variable {C:MC} {k:Nat} {X:Cx} {φ:List Addr} {H:Hp} {pins:List (Addr×Obj)} {σ:St} {s:Shared}
noncomputable def uZ:List PV->Option (List (PV×PV))
 | []=>some []
 | .tup [y,v] :: r=>if y.isKt=true then (uZ r).map ((y,v) :: ·) else none
 | _=>none
noncomputable def KH (kvs more:List (PV×PV)):List (PV×PV):=more.foldl (fun acc kv=>dO acc kv.1 kv.2) kvs
theorem zI {h h':Heap} (kp:∀ b u,h.get? b=some u->h'.get? b=some u) (a:Addr) (x:Array Value):IsTup h a x->IsTup h' a x:=fun ⟨o,e,r⟩=>⟨o,kp _ _ e,r⟩
theorem vA (I:Inv X pins σ H s) (hK:X.K=C.K):∀ {ps:List PV} {rs:List (PV×PV)} {vs:List V} {us:List Value},uZ ps=some rs->RVs C φ H ps vs->aN vs us->
  ∃ qs:List (Addr×PV×Addr×Value),us=qs.map (fun q=>dm q.1)/\(∀ h',(∀ b u,s.heap.get? b=some u->h'.get? b=some u)->∀ q∈qs,(jR X.prog X.w).is h' q.2.1 q.2.2.1/\IsTup h' q.1 #[.ref q.2.2.1,q.2.2.2])/\
   ∀ {kvs:List (PV×PV)} {ks:List (PV×Addr×V)} {xs:List (PV×Addr×Value)},RKd C φ H kvs ks->uK ks xs->∃ ks',RKd C φ H (KH kvs rs) ks'/\uK ks' (Cp xs qs)
 | [],rs,[],us,e,_,ru=>by
  cases ru
  cases e
  exact ⟨[],rfl,(fun _ _ _ h=>nomatch h),fun r rx=>⟨_,r,rx⟩⟩
 | p :: ps,rs,v :: vs,us,e,r,ru=>by
  cases ru with
  | @cons _ u _ us' h t=>
   cases p with
   | tup xs=>
    match xs,e with
    | [y,z],e=>
     unfold uZ at e;split at e
     ·rename_i hk;cases e2:uZ ps with
      | none=>rw [e2] at e; cases e
      | some rs'=>
       rw [e2] at e;cases e
       obtain ⟨qs,rfl,a1,a2⟩:=vA I hK e2 r.2 t;obtain ⟨b,bs,rfl,sq,rb⟩:=r.1;cases h
       obtain ⟨yv,zv,rfl,ry,rz⟩:=rb.two;rw [<- hK] at sq;obtain ⟨its,rits,pt,_⟩:=I.tuple sq;obtain ⟨yu,zu,rfl,ryu,rzu⟩:=vals2 rits;obtain ⟨c,rfl⟩:=kQ hk ry;cases ryu
       have hki:=uM I hK hk ry;refine ⟨(b,y,c,zu) :: qs,rfl,?_,fun {kvs ks xs} r' rx'=>?_⟩
       ·intro h' kp q hq;rcases bc.mp hq with rfl | hq
        ·exact ⟨⟨hki.1,HR.keep (zI kp) hki.2⟩,zI kp _ _ pt⟩
        ·exact a1 h' kp q hq
       ·obtain ⟨ks',r1,r2⟩:=HD.put (a:=b) r' rx' (nX hk) ry rz rzu;exact a2 r1 r2
     ·cases e
    | [],e=>cases e
    | [_],e=>cases e
    | _ :: _ :: _ :: _,e=>cases e
   | _=>cases e
 | [],_,_ :: _,_,_,r,_=>r.elim
 | _ :: _,_,[],_,_,r,_=>r.elim
noncomputable def AQ:List PV->PH->Rs PV:=fun xs h=>match xs with
 | [.ref n]=>match h[n]? with
  | some (.lst ps)=>match uZ ps with
   | some rs=>.ok (.ref h.length) (h++[.dD (KH [] rs)])
   | none=>.bad
  | _=>uP xs h
 | _=>uP xs h
theorem zJ {K:Type} [DecidableEq K]:∀ (ps:List (Addr×K×Addr×Value)) (xs:List (K×Addr×Value)),(Cp xs ps).length<=xs.length+ps.length
 | [],xs=>ai _
 | p :: ps,xs=>by
  have:=zJ ps (storedH xs p.2.1 p.2.2.1 p.2.2.2);have h2:=rX xs p.2.1 p.2.2.1 p.2.2.2
  show (Cp (storedH xs p.2.1 p.2.2.1 p.2.2.2) ps).length<=_
  rw [dk];omega
theorem NS:gM C k X (.type "dict") AQ:=fun c pins s σ H xs us Q I r h=>by
 obtain ⟨φ,h,ps,rh,rv,po⟩:=h;unfold AQ at po;split at po
 ·rename_i n;split at po
  ·rename_i ls hk;split at po
   ·rename_i rs e;obtain ⟨v,rfl,rx⟩:=rv.one;obtain ⟨a,rfl,ha⟩:=rx;obtain ⟨u,rfl,ru⟩:=vals1 r;cases ru
    obtain ⟨vs,hH,rvs⟩:=rh.at' n a _ ha hk;obtain ⟨hz,its,m,rits,hl,hx⟩:=I.lstM hH;obtain ⟨qs,rfl,a1,a2⟩:=vA I c.K e rvs rits;have hq:qs.length<=au:=by
     rw [ae] at hl;omega
    have rm:(jR X.prog X.w).room X.A.in1.in1:=by
     have:=c.hu64
     show X.A.units+1+1+6 < cLine
     omega
    refine sO (knd:=jR X.prog X.w) (I.ok.hd c.calm) rm hx rfl rfl rfl a1 hq fun h' tk dd kk=>?_;obtain ⟨ks',r1,r2⟩:=a2 (.nil:RKd C φ H [] []) (.nil:uK [] []);have fr:H s.heap.objs.size=none:=I.fresh;obtain ⟨o,es,ep,hq1,h2,h3,h4,h5',h5⟩:=dd;have hl2:ks'.length<=au:=by
     have e1:=eu r2;have e2:=zJ qs ([]:List (PV×Addr×Value));simp at e2;omega
    refine ⟨.ref s.heap.objs.size,_,I.laid (a:=s.heap.objs.size) (o:=dDO C.w s.heap.objs.size ks') (t':=tk) kk (ai _) ⟨⟨hl2,beq_eq_false_iff_ne.mpr (i8 (a9 I.big)),_,r2,o,es,ep,hq1,h2,h3,?_,h5⟩,⟨o,hq1⟩,?_⟩,rfl,?_⟩
    ·rw [h4,<- c.w]; rfl
    ·rintro g1 g2 ⟨z1,z2,ws,z3,o',es',ep',z4,z5⟩ keep;exact ⟨z1,z2,ws,z3,o',es',ep',keep _ z4,z5⟩
    ·exact po (φ++[s.heap.objs.size]) (.ref _) _ (cw _ _) (Kp.new fr) (rh.new fr ⟨_,bJ,RKd.mono (cw _ _) (Kp.new fr) r1⟩) ⟨_,rfl,by rw [<- rh.len]; simp⟩
   ·exact po.elim
  ·exact Kw c pins s σ H xs us Q I r ⟨φ,h,_,rh,rv,po⟩
 ·exact Kw c pins s σ H xs us Q I r ⟨φ,h,_,rh,rv,po⟩
end
end L2
namespace L2
open PySem PySem.Spec PyProof.Rows PySem.SeqAt
open PySem.AutoSeq1 (wpAny_loadPart')
open PySem.MeetsSeq PySem.MeetsSeq2 PySem.MeetsSeq3
section
variable {C:MC} {k:Nat} {X:Cx}
noncomputable def Tz:PV->PV->PH->Rs PV:=fun x y h=>match x,y with
 | .tup xs,.tup ys=>ofB ((NK (.tup xs) (.tup ys)).map (!·)) h
 | x,y=>vGe x y h
variable {h:PH}
@[simp] theorem TB {i j:Int}:Tz (.int i) (.int j) h=.ok (.bl (decide (j<=i))) h:=(rfl)
@[simp] theorem TC {i j:Str}:Tz (.str i) (.str j) h=.ok (.bl (!decide (i.cps.toList < j.cps.toList))) h:=(rfl)
end
end L2
namespace L2
open PySem PySem.Spec PyProof.Rows
section
variable {C:MC} {k:Nat} {X:Cx} {ke ve:Expr} {mk mv:Me} {pos:Pos}
noncomputable def putD (x y:PV) (n:Nat) (h:PH):Rs PV:=if x.isKt=true then (match cM h n with
 | some kvs=>if kvs.length < au then .ok (.ref n) (h.set n (.dD (dO kvs x y))) else .bad
 | none=>.bad) else .bad
noncomputable def QV (mk mv:Me):Me:=fun δ h=>(mk δ (h++[.dK []])).bind fun x h2=>(mv δ h2).bind fun y h3=>putD x y h.length h3
end
section
theorem NT {h:PH} {n:Nat} {kvs:List (Key×PV)} {x:Str} {z:PV} (e:h[n]?=some (.dK kvs)) (hl:kvs.length < 16777216):oF (.ref n) (.str x) z h=some (h.set n (.dK (dO kvs (.inr x) z))):=by
 show sN (.ref n) (.str x) z h=_
 exact Gk e hl
@[simp] theorem RR {mk mv:Me} {δ:Ev} {h:PH}:QV mk mv δ h=(mk δ (h++[.dK []])).bind fun x h2=>(mv δ h2).bind fun y h3=>putD x y h.length h3:=(rfl)
end
noncomputable def TF:HO->Prop
 | .tup _=>False
 | .own _=>False
 | .tbl _=>False
 | _=>True
noncomputable def QW:MO->Option (List PV)
 | .dK kvs=>some (kvs.map fun kv=>.tup [kP kv.1,kv.2])
 | .dD kvs=>some (kvs.map fun kv=>.tup [kv.1,kv.2])
 | _=>none
noncomputable def TH:MO->Option (List PV)
 | .dK kvs=>some (kvs.map fun kv=>kP kv.1)
 | .dD kvs=>some (kvs.map (·.1))
 | _=>none
section
variable {C:MC} {k:Nat} {X:Cx} {pins:List (Addr×Obj)} {σ:St} {H:Hp} {s:Shared} {φ:List Addr}
structure VH (C:MC) (φ:List Addr) (H:Hp) (s:Shared) (b:Addr) (o:MO) (ks:List (V×V)) (u:HO) (oc:Obj) (es:Array DictEntry) (ep:Nat):Prop where
 at':H b=some u
 nf:TF u
 nz:∀ o z,u≠.frz o z
 nt:BU (some u)
 get:s.heap.get? b=some oc
 cls:oc.cls=.type "dict"
 data:oc.data=.dict es ep
 nsys:(b == fg)=false
 fz:∀ φ' H',φ<+:φ'->H' b=some (.frz oc u)->Kp H H'->RO C φ' H' b (.fz o)
 len:ks.length=es.size
 ent:∀ (i:Nat) (hi:i < es.size),∃ kv,ks[i]?=some kv/\RelV kv.1 es[i].key/\RelV kv.2 es[i].val
 keys:∀ xs,TH o=some xs->RVs C φ H xs (ks.map (·.1))
 items:∀ xs,QW o=some xs->xs.length=ks.length/\∀ (i:Nat) p,xs[i]?=some p->∃ p1 p2 kv,p=.tup [p1,p2]/\ks[i]?=some kv/\RV C φ H p1 kv.1/\RV C φ H p2 kv.2
end
end L2
namespace L2
open PySem PySem.Spec PyProof.Rows PySem.SeqAt
section
variable {X:Cx} {pins:List (Addr×Obj)} {σ:St} {H:Hp} {s:Shared}
theorem vB (I:Inv X pins σ H s):∀ {ds es:List D} {vs:List V},D.depths ds<=40->cG X.K H ds vs->cG X.K H es vs->ds=es
 | [],[],[],_,_,_=>rfl
 | d :: ds,e :: es,v :: vs,h,⟨a,b⟩,⟨a',b'⟩=>by
  have hh:D.depths (d :: ds)=max d.depth (D.depths ds):=by simp [D.depths]
  have h1:d.depth<=40:=by omega
  have h2:D.depths ds<=40:=by omega
  rw [kN I 40 d e v h1 a a',vB I h2 b b']
 | [],_ :: _,vs,_,h,h'=>by
  cases vs with
  | nil=>exact h'.elim
  | cons _ _=>exact h.elim
 | _ :: _,[],vs,_,h,h'=>by
  cases vs with
  | nil=>exact h.elim
  | cons _ _=>exact h'.elim
theorem Vg (I:Inv X pins σ H s) {ds es:List D} {A:Around} {x y:V} {v u:Value} (hd:D.depths ds<=40) (hu:A.units+42 < cLine) (hx:BV X.K H ds x) (hy:BV X.K H es y) (rx:RelV x v) (ry:RelV y u):EqAt A s v u (eE ds es):=by
 obtain ⟨a,vs,rfl,q,r⟩:=hx;obtain ⟨b,vs',rfl,q',r'⟩:=hy;cases rx; cases ry;refine eI (fun prog w E Q hq=>?_) (fun e=>?_) (fun f t z=>by cases z)
 ·obtain ⟨its,rv,p,_⟩:=I.list q;obtain ⟨its',rv',p',_⟩:=I.list q';have l1:=r.length;have l2:=r'.length;have l3:=rv.length;have l4:=rv'.length
  by_cases hl:ds.length=es.length
  ·refine eq_listAt p.isList p'.isList (by simp; omega) (by omega) (lY (I:=I) r r' rv rv' hd (by omega)) ?_;have e1:its.toArray.size=ds.length:=by simp; omega
   rw [e1,pR hl];exact hq
  ·refine eq_list_lengthsAt p.isList p'.isList (by simp; omega) (by omega) ?_;have e:eE ds es=false:=by
    cases h:eE ds es with
    | false=>rfl
    | true=>exact absurd (tQ h) hl
   rw [e] at hq;exact hq
 ·cases e
  have ev:=I.list_inj q q';subst ev;have e2:=vB I hd r r';subst e2;have:=iC (.tup ds);simpa [eqD] using this
end
end L2
namespace L2
open PySem PySem.Spec PyProof.Rows PySem.SeqAt PySem.W
noncomputable def hdk:PV->Option Nat
 | .tup (.int _ :: _)=>some 0
 | .tup (.str _ :: _)=>some 1
 | .tup (.tup _ :: _)=>some 2
 | _=>none
noncomputable def ltV (x y:PV):Bool:=match x.d,y.d with
 | some d,some e=>ltD d e == some true
 | _,_=>false
structure OkV (b:Bool) (ks:List PV):Prop where
 dat:∀ x∈ks,∃ xs ds,x=.tup xs/\PV.ds xs=some ds/\D.depths ds<=40
 hd:∃ t,((t == 2)=!b)/\t<=2/\∀ x∈ks,hdk x=some t
 can:∀ x∈ks,∀ y∈ks,∃ d e c,x.d=some d/\y.d=some e/\ltD d e=some c
 tr:∀ x∈ks,∀ y∈ks,∀ z∈ks,ltV y x=false->ltV z y=false->ltV z x=false
 as:∀ x∈ks,∀ y∈ks,ltV x y=true->ltV y x=false
 tot:∀ x∈ks,∀ y∈ks,ltV x y=false->ltV y x=false->x=y
end L2
namespace L2
open PySem PySem.Spec PyProof.Rows PySem.SeqAt
structure Mk0 (K:af) (C:Addr):Prop where
 makes:PySem.W.makesIn K C=true
 init:kr K (.ref C) "__init__" = some (some (.builtin "object.__init__"))
 kp:bp K (.ref C)=true
noncomputable def QX (cn:Str):Me:=fun δ h=>.ok (.ref h.length) (h++[.ins cn []])
section
@[simp] theorem RS {cn:Str} {δ:Ev} {h:PH}:QX cn δ h=.ok (.ref h.length) (h++[.ins cn []]):=(rfl)
end
end L2
namespace L2
open PySem PySem.Spec PyProof.Rows PySem.SeqAt PySem.W
open Classical in
noncomputable def TJ (b:Bool) (m:Nat) (ks ys:List PV):Option (List PV):=if ks.length < 64/\ks.length=ys.length/\OkN m ks/\(∀ a∈ks.zip ys,∀ c∈ks.zip ys,a.1=c.1->a.2=c.2) then some ((md b (Pp Prod.fst (ks.zip ys))).map (·.2)) else none
noncomputable def Cs (f:Fn) (b:Bool) (kb:Nat) (ys:List PV):List PV->List PV->PH->Rs PV
 | [],ks,h=>match TJ b kb ks ys with
  | some zs=>.ok (.ref h.length) (h++[.lst zs])
  | none=>.bad
 | x :: xs,ks,h=>(f [x] h).bind fun k h1=>Cs f b kb ys xs (ks++[k]) h1
noncomputable def Gq (f:Fn) (b:Bool) (kb:Nat) (x:PV) (h:PH):Rs PV:=match iA x h with
 | some ys=>if ys.length < 64 then Cs f b kb ys ys [] h else .bad
 | none=>.bad
noncomputable def NU (f:Fn) (b:Bool) (kb:Nat) (me:Me):Me:=fun δ h=>(me δ h).bind fun x h1=>Gq f b kb x h1
section
variable {δ:Ev} {h:PH} {m:Me}
@[simp] theorem QY {f:Fn} {b:Bool} {n:Nat}:NU f b n m δ h=(m δ h).bind fun x h1=>Gq f b n x h1:=(rfl)
end
end L2
namespace L2
open PySem PySem.Spec PyProof.Rows PySem.SeqAt
noncomputable def eqL (f:PV->PV->Option Bool):List PV->List PV->Option Bool
 | x :: xs,y :: ys=>match f x y,eqL f xs ys with
  | some b,some c=>some (b && c)
  | _,_=>none
 | [],[]=>some true
 | _,_=>some false
theorem KI {f:PV->PV->Option Bool}:∀ {xs ys:List PV} {b:Bool},eqL f xs ys=some b->
  ∃ g:Nat->Bool,(∀ (j:Nat) (x y:PV),xs[j]?=some x->ys[j]?=some y->f x y=some (g j))/\b=((ax (min xs.length ys.length)).all g && xs.length == ys.length)
 | [],[],b,e=>⟨fun _=>true,fun j x y h=>(by simp at h),by cases e; rfl⟩
 | [],y :: ys,b,e=>⟨fun _=>true,fun j x y h=>(by simp at h),by cases e; simp⟩
 | x :: xs,[],b,e=>⟨fun _=>true,fun j x y _ h=>(by simp at h),by cases e; simp⟩
 | x :: xs,y :: ys,b,e=>by
  unfold eqL at e;split at e
  ·rename_i b' c e1 e2;cases e
   obtain ⟨g,h1,h2⟩:=KI e2;refine ⟨fun j=>match j with | 0=>b' | j+1=>g j,fun j x y hx hy=>?_,?_⟩
   ·cases j with
    | zero=>simp at hx hy; subst hx hy; exact e1
    | succ j=>exact h1 j x y (by simpa using hx) (by simpa using hy)
   ·rw [h2];have e3:min (x :: xs).length (y :: ys).length=min xs.length ys.length+1:=by simp only [dk]; omega
    rw [e3,List.range_succ_eq_map,jq,List.all_map,Bool.and_assoc];simp [Function.comp_def]
  ·cases e
theorem AR {f:PV->PV->Option Bool} {R:PV->V->Prop} (hf:∀ x y v b,f x y=some b->R x v->R y v->b=true):∀ {xs ys:List PV} {vs:List V} {b:Bool},(∀ (j:Nat) (x:PV),xs[j]?=some x->∃ v,vs[j]?=some v/\R x v)->(∀ (j:Nat) (x:PV),ys[j]?=some x->∃ v,vs[j]?=some v/\R x v)->xs.length=ys.length->eqL f xs ys=some b->b=true
 | [],[],_,b,_,_,_,e=>by cases e; rfl
 | [],_ :: _,_,_,_,_,h,_=>by simp at h
 | _ :: _,[],_,_,_,_,h,_=>by simp at h
 | x :: xs,y :: ys,vs,b,h1,h2,h,e=>by
  unfold eqL at e;split at e
  ·rename_i b' c e1 e2;cases e
   obtain ⟨v,hv,rx⟩:=h1 0 x rfl;obtain ⟨v',hv',ry⟩:=h2 0 y rfl;rw [hv] at hv';cases hv'
   rw [hf x y v b' e1 rx ry,AR hf (vs:=vs.tail) (fun j z hz=>by simpa using h1 (j+1) z hz) (fun j z hz=>by simpa using h2 (j+1) z hz) (by simpa using h) e2]
   rfl
  ·cases e
noncomputable def eqF:Nat->PV->PV->PH->Option Bool
 | 0,x,y,h=>iU x y h
 | n+1,x,y,h=>match iU x y h with
  | some b=>some b
  | none=>match x,y with
   | .tup xs,.tup ys=>eqL (fun a b=>eqF n a b h) xs ys
   | x,y=>match cY x h,cY y h with
    | some xs,some ys=>eqL (fun a b=>eqF n a b h) xs ys
    | _,_=>none
noncomputable def NV:PV->PV->PH->Rs PV:=fun x y h=>ofB ((eqF 3 x y h).map not) h
section
variable {C:MC} {k:Nat} {X:Cx} {pins:List (Addr×Obj)} {σ:St} {H:Hp} {s:Shared} {φ:List Addr} {h:PH}
theorem mL:∀ {xs:List PV} {vs:List V},RVs C φ H xs vs->xs.length=vs.length/\∀ (j:Nat) (x:PV),xs[j]?=some x->∃ v,vs[j]?=some v/\RV C φ H x v
 | [],[],_=>⟨rfl,fun j x h=>by simp at h⟩
 | x :: xs,v :: vs,r=>by
  obtain ⟨l,q⟩:=mL r.2;refine ⟨by simp [l],fun j y hy=>?_⟩;cases j with
  | zero=>simp at hy; subst hy; exact ⟨v,rfl,r.1⟩
  | succ j=>simpa using q j y (by simpa using hy)
 | [],_ :: _,r=>r.elim
 | _ :: _,[],r=>r.elim
theorem zK (I:Inv X pins σ H s) (hK:X.K=C.K) (rh:RH C φ H h) {x y:PV} {w:V} {b:Bool} (e:iU x y h=some b) (rx:RV C φ H x w) (ry:RV C φ H y w):b=true:=by
 rcases iV rh rx ry e with ⟨d,e',q1,q2,q3,rfl⟩ | ⟨d,e',⟨a,vs,hw,sa,ra⟩,⟨a',us,hw',sa',ra'⟩,q3,rfl⟩
 ·rw [<- hK] at q1 q2;rw [kN I 40 d e' w q3 q1 q2];exact iC _
 ·rw [<- hK] at sa sa' ra ra';subst hw;cases hw'
  have ev:=I.list_inj sa sa';subst ev;have e2:=vB I q3 ra ra';subst e2;have:=iC (.tup d);simpa [eqD] using this
theorem KJ (I:Inv X pins σ H s) (hK:X.K=C.K) (rh:RH C φ H h):∀ (n:Nat) (x y:PV) (w:V) (b:Bool),eqF n x y h=some b->RV C φ H x w->RV C φ H y w->b=true:=by
 intro n
 induction n with
 | zero=>intro x y w b e rx ry; exact zK I hK rh e rx ry
 | succ n ih=>
  intro x y w b e rx ry;unfold eqF at e;split at e
  ·rename_i b' e2;cases e
   exact zK I hK rh e2 rx ry
  ·split at e
   ·rename_i xs ys _;obtain ⟨a,vs,rfl,q,r⟩:=rx;obtain ⟨a',us,hw,q',r'⟩:=ry;cases hw
    rw [<- hK] at q q';have ev:=I.tuple_inj q q';subst ev;obtain ⟨l1,a1⟩:=mL r;obtain ⟨l2,a2⟩:=mL r';exact AR (R:=RV C φ H) (fun x y v b=>ih x y v b) a1 a2 (by omega) e
   ·split at e
    ·rename_i xs ys h1 h2;obtain ⟨a,vs,rfl,sa,ra⟩:=dR rh rx h1;obtain ⟨a',us,hw,sb,rb⟩:=dR rh ry h2;cases hw
     rw [<- hK] at sa sb;have ev:=I.list_inj sa sb;subst ev;obtain ⟨l1,a1⟩:=mL ra;obtain ⟨l2,a2⟩:=mL rb;exact AR (R:=RV C φ H) (fun x y v b=>ih x y v b) a1 a2 (by omega) e
    ·cases e
theorem Ct {n:Nat} (hn:∀ (A:Around) (x y:PV) (v u:V) (i j:Value) (b:Bool),A.units+42+n < cLine->eqF n x y h=some b->RV C φ H x v->RV C φ H y u->RelV v i->RelV u j->EqAt A s i j b)
  {A:Around} {xs ys:List PV} {b:Bool} {vs us:List V} {is js:List Value} (hu:A.units+42+n < cLine) (e:eqL (fun a b=>eqF n a b h) xs ys=some b) (r:RVs C φ H xs vs) (r':RVs C φ H ys us) (rv:aN vs is) (rw':aN us js):
  ∃ g:Nat->Bool,is.toArray.size=xs.length/\js.toArray.size=ys.length/\(∀ (j:Nat) (h1:j < is.toArray.size) (h2:j < js.toArray.size),EqAt A s is.toArray[j] js.toArray[j] (g j))/\b=((ax (min is.toArray.size js.toArray.size)).all g && is.toArray.size == js.toArray.size):=by
 obtain ⟨g,hg,hb⟩:=KI e;obtain ⟨l1,a1⟩:=mL r;obtain ⟨l2,a2⟩:=mL r';have l3:=rv.length;have l4:=rw'.length;have z1:is.toArray.size=xs.length:=by simp; omega
 have z2:js.toArray.size=ys.length:=by simp; omega
 refine ⟨g,z1,z2,fun j h1 h2=>?_,by rw [z1,z2]; exact hb⟩;have k1:j < xs.length:=by omega
 have k2:j < ys.length:=by omega
 obtain ⟨v,hv,q1⟩:=a1 j xs[j] (fq k1);obtain ⟨u,hu',q2⟩:=a2 j ys[j] (fq k2);obtain ⟨i,hi,q3⟩:=rv.get hv;obtain ⟨i',hi',q4⟩:=rw'.get hu';have e1:is.toArray[j]=i:=by
  have:=(ab.mp hi).2;simpa using this
 have e2:js.toArray[j]=i':=by
  have:=(ab.mp hi').2;simpa using this
 rw [e1,e2];exact hn A _ _ v u i i' (g j) hu (hg j _ _ (fq k1) (fq k2)) q1 q2 q3 q4
theorem KL (I:Inv X pins σ H s) (hK:X.K=C.K) (rh:RH C φ H h) (n:Nat) (hn:∀ (A:Around) (x y:PV) (v u:V) (i j:Value) (b:Bool),A.units+42+n < cLine->eqF n x y h=some b->RV C φ H x v->RV C φ H y u->RelV v i->RelV u j->EqAt A s i j b)
  (A:Around) (x y:PV) (v u:V) (i j:Value) (b:Bool) (hu:A.units+43+n < cLine) (e2:iU x y h=none) (e:eqF (n+1) x y h=some b) (rx:RV C φ H x v) (ry:RV C φ H y u) (r1:RelV v i) (r2:RelV u j):
  RcAt A s i j b/\RcNeAt A s i j (!b)/\∃ a a',i=.ref a/\j=.ref a'/\v=.ref a/\u=.ref a':=by
 unfold eqF at e;rw [e2] at e;simp only at e;split at e
 ·rename_i xs ys;obtain ⟨a,vs,rfl,q,r⟩:=rx;obtain ⟨a',us,rfl,q',r'⟩:=ry;cases r1; cases r2;rw [<- hK] at q q';obtain ⟨its,rv,p,_⟩:=I.tuple q;obtain ⟨its',rv',p',_⟩:=I.tuple q';obtain ⟨g,z1,z2,el,hb⟩:=Ct hn (A:=A.in1) (by show A.units+1+42+n < cLine; omega) e r r' rv rv';rw [hb];exact ⟨RcAt.tuples p p' (by omega) el,RcNeAt.tuples p p' (by omega) el,a,a',rfl,rfl,rfl,rfl⟩
 ·split at e
  ·rename_i xs ys h1 h2;obtain ⟨a,vs,rfl,sa,ra⟩:=dR rh rx h1;obtain ⟨a',us,rfl,sb,rb⟩:=dR rh ry h2;cases r1; cases r2;rw [<- hK] at sa sb;obtain ⟨its,rv,p,_⟩:=I.list sa;obtain ⟨its',rv',p',_⟩:=I.list sb;obtain ⟨g,z1,z2,el,hb⟩:=Ct hn (A:=A.in1) (by show A.units+1+42+n < cLine; omega) e ra rb rv rv';refine ⟨?_,?_,a,a',rfl,rfl,rfl,rfl⟩
   all_goals by_cases hl:its.toArray.size=its'.toArray.size
   all_goals first
    | rw [hb,<- hl,Nat.min_self,beq_self_eq_true,Bool.and_true]
    | rw [hb,beq_eq_false_iff_ne.mpr hl,Bool.and_false]
   ·intro prog w E Q hq;exact eq_listAt p.isList p'.isList hl (by omega) el hq
   ·intro prog w E Q hq;exact eq_list_lengthsAt p.isList p'.isList (by simpa using hl) (by omega) hq
   ·exact RcNeAt.lists p.isList p'.isList hl (by omega) el
   ·exact RcNeAt.lists_lengths p.isList p'.isList (by simpa using hl) (by omega)
  ·cases e
theorem QZ (I:Inv X pins σ H s) (hK:X.K=C.K) (rh:RH C φ H h):∀ (n:Nat) (A:Around) (x y:PV) (v u:V) (i j:Value) (b:Bool),A.units+42+n < cLine->eqF n x y h=some b->RV C φ H x v->RV C φ H y u->RelV v i->RelV u j->EqAt A s i j b:=by
 have base:∀ (A:Around) (x y:PV) (v u:V) (i j:Value) (b:Bool),A.units+42 < cLine->iU x y h=some b->RV C φ H x v->RV C φ H y u->RelV v i->RelV u j->EqAt A s i j b:=by
  intro A x y v u i j b hu e rx ry r1 r3;rcases iV rh rx ry e with ⟨d,e',q1,q2,q3,rfl⟩ | ⟨d,e',q1,q2,q3,rfl⟩
  ·exact JJ I (n:=40) q3 (by omega) (by rw [hK]; exact q1) (by rw [hK]; exact q2) r1 r3
  ·exact Vg I q3 hu (by rw [hK]; exact q1) (by rw [hK]; exact q2) r1 r3
 intro n
 induction n with
 | zero=>intro A x y v u i j b hu e; exact base A x y v u i j b (by omega) e
 | succ n ih=>
  intro A x y v u i j b hu e rx ry r1 r2;cases e2:iU x y h with
  | some b'=>
   unfold eqF at e;rw [e2] at e;cases e
   exact base A x y v u i j b (by omega) e2 rx ry r1 r2
  | none=>
   obtain ⟨h1,_,a,a',rfl,rfl,rfl,rfl⟩:=KL I hK rh n ih A x y v u i j b (by omega) e2 e rx ry r1 r2;refine eI h1 (fun z=>?_) (fun f t z=>by cases z);cases z
   exact KJ I hK rh (n+1) x y _ b e rx ry
theorem KM {x y:PV} {b:Bool} (e:eqF 3 x y h=some b):iU x y h=some b\/iU x y h=none:=by
 unfold eqF at e;split at e
 ·rename_i b' e2;cases e
  exact .inl e2
 ·exact .inr (by assumption)
theorem R0:OpS C k X (cz .NotEq) NV:=fun c=>by
 intro pins s σ H x y v u Q I rx ry hq;obtain ⟨φ,h,p,q,rh,rp,rq,po⟩:=hq;obtain ⟨b0,e0,po⟩:=po.ofB;obtain ⟨b,e,rfl⟩:=bf.mp e0;have hu:=c.hu64;rcases KM e with e2 | e2
 ·refine K3 c pins s σ H x y v u Q I rx ry ⟨φ,h,p,q,rh,rp,rq,?_⟩;unfold vNe;rw [e2];exact po
 ·exact (KL I c.K rh 2 (QZ I c.K rh 2) X.A p q x y v u b (by omega) e2 e rp rq rx ry).2.1 X.prog X.w X.xe _ ⟨.bl _,H,I,rfl,po.val rh rfl⟩
end
end L2
namespace L2
open PySem PySem.Spec PyProof.Rows PySem.SeqAt
open PySem.AutoSeq1 (wpAny_loadPart')
open PySem.MeetsSeq PySem.MeetsSeq2 PySem.MeetsSeq3
section
variable {C:MC} {k:Nat} {X:Cx}
noncomputable def Vh:PV->PV->PH->Rs PV:=fun x y h=>match x,y with
 | .tup xs,.tup ys=>ofB (if (PV.tup xs).d.all (fun d=>decide (d.depth<=40)) then (NK (.tup ys) (.tup xs)).map (!·) else none) h
 | x,y=>vLe x y h
variable {h:PH}
@[simp] theorem TK {i j:Int}:Vh (.int i) (.int j) h=.ok (.bl (decide (i<=j))) h:=(rfl)
end
end L2
namespace L2
open PySem PySem.Spec PyProof.Rows PySem.SeqAt PySem.W
noncomputable def Cu (o:Option (PV×Int)) (y:PV) (i:Int):Option (PV×Int):=match o with
 | some b=>if b.2 < i then some (y,i) else some b
 | none=>some (y,i)
noncomputable def dY (f:Fn) (n:Nat) (xs:List PV):List PV->Option (PV×Int)->PH->Rs PV
 | [],o,h=>if lM n xs h=true then (match o with | some b=>.ok b.1 h | none=>.ok .non h) else .bad
 | y :: ys,o,h=>if lM n xs h=true then (f [y] h).bind fun k h1=>match k with
   | .int i=>dY f n xs ys (Cu o y i) h1
   | _=>.bad
  else .bad
noncomputable def zL (f:Fn) (x:PV) (h:PH):Rs PV:=match x with
 | .ref n=>match aP h n with
  | some xs=>dY f n xs xs none h
  | none=>.bad
 | _=>.bad
noncomputable def Gr (f:Fn) (me:Me):Me:=fun δ h=>(me δ h).bind fun x h1=>zL f x h1
theorem Eu (a v:Value):argsOk "max" ⟨[a],[("key",v),("default",.none)]⟩:=by rfl
theorem AS (v:Value):Builtin.Builtins.bindParams "max" ["key","default"] 0 ⟨[],[("key",v),("default",.none)]⟩=pure [some v,some .none]:=by rfl
section
variable {prog:Program} {w:World} {A:Around} {E:Value->Shared->Prop} {s:Shared}
theorem KN {id:String} {b:Builtin} {args:Args} {Q:Value->Shared->Prop} (hk:builtinKind id=none) (hp:plainId id=true) (he:entryFor table id=some b) (ha:argsOk id args)
  (h:wpAny (model prog w) A.in1 (b args) (fun fin s'=>match fin with | .done f=>wants Q E (.ok f) s' | .again c'=>c'.quiet=true/\codeAny (model prog w) A c' (wants Q E) s') E s):wpAny (model prog w) A (call (.builtin id) args.pos args.kw) Q E s:=by
 have e:checkBuiltinCall id args=pure ():=by
  unfold checkBuiltinCall;rw [hk];unfold argsOk at ha;generalize Manifest.signature? id=sg at ha ⊢;cases sg <;> cases splitId id <;> first | rfl | exact ha
 refine wpAny_call (codeAny_call_builtin hp he (wpAny_of_eq e ?_));exact h
theorem HH {l:Addr} {items:Array Value} {v:Value} {Q:Value->Shared->Prop} (hl:s.heap.IsList l items)
  (h:codeAny (model prog w) A (.builtin "max.loop" ⟨[.ref s.heap.objs.size,v,.ref (s.heap.objs.size+1)],[("default",.none)]⟩) (wants Q E)
   { s with heap:=(s.heap.push { cls:=.type "list_iterator",data:=.fields #[.ref l,.int 0 0] }).push (seqObj "list" #[] 0) }):
  wpAny (model prog w) A (call (.builtin "max") [.ref l] [("key",v),("default",.none)]) Q E s:=by
 refine KN (args:=⟨[.ref l],[("key",v),("default",.none)]⟩) F.kind_max F.plain_max F.entry_max (Eu _ _) ?_
 show wpAny _ _ (Builtin.Builtins.bindParams "max" ["key","default"] 0 ⟨[],[("key",v),("default",.none)]⟩ >>= _) _ _ s
 refine aa (wpAny_of_eq (AS v) ?_);refine (show wpAny _ _ (pure (dm l) >>= _) _ _ s from aa (ag ?_))
 refine aa (km hl ?_);refine aa (wpAny_newList ?_ (by rw [c3]; simp));refine ag ⟨jt jx _,?_⟩;have e:(s.heap.push { cls:=.type "list_iterator",data:=.fields #[.ref l,.int 0 0] }).objs.size=s.heap.objs.size+1:=by rw [jz]
 simp only [e] at*;exact h
end
section
variable {C:MC} {k:Nat} {X:Cx} {x:Str} {st:Stmt} {q:Addr} {fd:c5} {pn:List Str} {j:Nat} {f:Fn}
noncomputable def KO (C:MC) (φ:List Addr) (H:Hp) (o:Option (PV×Int)) (best:List Value):Prop:=match o with
 | none=>best=[]
 | some b=>∃ v u t,best=[u,.int b.2 t]/\RelV v u/\RV C φ H b.1 v
noncomputable def TL (X:Cx) (pins:List (Addr×Obj)) (a:Addr):Prop:=X.s₀.heap.objs.size<=a/\a≠X.env.locals/\(∀ x c,X.env.cells.lookup x=some c->c≠a)/\(∀ p∈X.pn++pins,p.1≠a)/\a∉X.fs
theorem Gs {n:Nat} {xs:List PV} {h:PH} (e:lM n xs h=true):aP h n=some xs:=by
 unfold lM at e;cases q:aP h n with
 | none=>rw [q] at e; cases e
 | some ys=>rw [q] at e; rw [PV.beqs_eq e]
theorem HJ (c:Cxt C k X) (D:Def C.K X.mg x st q fd pn) (G:aY X.prog X.w C.K X.mg X.base CX0 j q fd pn (spM C 1 f)) (hj:j+1<=k) {pins:List (Addr×Obj)} {σ:St} {Q:VK} {n:Nat} {xs:List PV} {l it S:Addr} (hne:it≠S) (fI:TL X pins it) (fS:TL X pins S):
  ∀ (m i:Nat) (s:Shared) (H:Hp) (φ:List Addr) (h:PH) (o:Option (PV×Int)) (best:List Value) (cc:Nat),xs.length - i=m->i<=xs.length->Inv X pins σ H s->H S=none->H it=none->s.heap.get? S=some (seqObj "list" best.toArray cc)->s.heap.IsListIter it l i->RH C φ H h->φ[n]?=some l->KO C φ H o best->
   post C φ H (dY f n xs (xs.drop i) o h) Q->codeAny (model X.prog X.w) X.A (.builtin "max.loop" ⟨[.ref it,.ref q,.ref S],[("default",.none)]⟩) (wants (EP X pins σ Q) X.xe) s:=by
 intro m
 induction m with
 | zero=>
  intro i s H φ h o best cc hm hi I hS hI gS sti rh hn bo po;have e:i=xs.length:=by omega
  subst e;rw [k6] at po;unfold dY at po;obtain ⟨hg,po⟩:=po.ite;obtain ⟨a,vs,ha,sq,rv⟩:=bP rh (Gs hg);rw [hn] at ha;cases ha
  rw [<- c.K] at sq;obtain ⟨its,rvs,pl,hz⟩:=I.list sq;have l1:=rv.length;have l2:=rvs.length;refine ka F.entry_max_loop ?_;rw [gz jx];refine (show wpAny _ _ (seqItems? (.ref S) >>= _) _ _ s from aa (wpAny_seqItems gS rfl ?_))
  refine (show wpAny _ _ (tryCatch (pyNext (.ref it)) _ >>= _) _ _ s from aa (kx (wpAny_pyNext_list_end (I.ok.hd c.calm) sti pl.isList (by simp; omega) fun h' eb=>?_)))
  have I1:Inv X pins σ H { s with heap:=h' }:=I.turned (t':=s.toks) (fun b o hb e=>eb b o hb e) hI fI.2.1 (.inr fI.1) fI.2.2.1 fI.2.2.2.1;cases o with
  | none=>
   cases bo
   refine (show wpAny _ _ (rule _ >>= _) _ _ _ from aa (jf (ag ?_)))
   exact ⟨.non,H,I1,rfl,po.val rh rfl⟩
  | some b=>
   obtain ⟨v,u,t,rfl,ru,rv⟩:=bo;have gS':=eb S _ (i8 hne) gS;refine (show wpAny _ _ (updateSeq S (fun _=>#[]) >>= _) _ _ _ from aa (wpAny_updateSeq gS' rfl ?_ (by rw [c3]; simp) (by rw [c3]; simp)))
   refine (show wpAny _ _ (letGo [_] [u] >>= _) _ _ _ from aa (wpAny_letGo (ag ?_)))
   refine ⟨v,H,I1.turned (t':=s.toks) (it:=S) (fun b o hb e=>?_) hS fS.2.1 (.inr fS.1) fS.2.2.1 fS.2.2.2.1,ru,po.val rh rv⟩;rw [jr _ _ _ _ hb];exact e
 | succ m ih=>
  intro i s H φ h o best cc hm hi I hS hI gS sti rh hn bo po;have hlt:i < xs.length:=by omega
  have gy:xs[i]?=some xs[i]:=by simp [hlt]
  rw [drop_cons gy] at po;unfold dY at po;obtain ⟨hg,po⟩:=po.ite;obtain ⟨a,vs,ha,sq,rv⟩:=bP rh (Gs hg);rw [hn] at ha;cases ha
  rw [<- c.K] at sq;obtain ⟨its,rvs,pl,hz⟩:=I.list sq;obtain ⟨v,hv,rvv⟩:=rv.at gy;obtain ⟨u,hu,ru⟩:=rvs.get hv;refine ka F.entry_max_loop ?_;rw [gz jx];refine (show wpAny _ _ (seqItems? (.ref S) >>= _) _ _ s from aa (wpAny_seqItems gS rfl ?_))
  refine (show wpAny _ _ (tryCatch (pyNext (.ref it)) _ >>= _) _ _ s from aa (kx (wpAny_pyNext_list_item sti pl.isList (x:=u) (by simpa using hu) fun h' st' sb=>?_)))
  have I1:Inv X pins σ H { s with heap:=h' }:=I.turned (t':=s.toks) (fun b o hb e=>(sb.2 b hb).trans e) hI fI.2.1 (.inr fI.1) fI.2.2.1 fI.2.2.2.1;have gS':h'.get? S=some (seqObj "list" best.toArray cc):=(sb.2 S (i8 hne)).trans gS;obtain ⟨oi,ei,ci,di⟩:=id st';have I2:Inv X (pins++[(S,seqObj "list" best.toArray cc),(it,oi)]) σ H { s with heap:=h' }:=I1.pins_of fun p hp=>by
   rcases ba.mp hp with hp | hp
   ·exact I1.pin p (ao _ hp)
   ·rcases bc.mp hp with rfl | hp
    ·exact ⟨gS',hS,fS.2.1,fS.2.2.2.2,gW⟩
    ·rw [bj.mp hp];exact ⟨ei,hI,fI.2.1,fI.2.2.2.2,fun v z=>by rw [di] at z; cases z⟩
  have e1':=c.K;have G':aY X.prog X.w X.K X.mg X.base CX0 j q fd pn (spM C 1 f):=by rw [e1']; exact G
  have D':Def X.K X.mg x st q fd pn:=by rw [e1']; exact D
  have sp1:spM C 1 f [v] H (fun v H2=>∃ φ2 p h2,φ<+:φ2/\Kp H H2/\RH C φ2 H2 h2/\RV C φ2 H2 p v/\post C φ2 H2 (match p with
   | .int i'=>dY f n xs (xs.drop (i+1)) (Cu o xs[i] i') h2
   | _=>.bad) Q) E0:=
   ⟨φ,h,[xs[i]],rh,⟨rvv,trivial⟩,rfl,post.bind po⟩
  have hl:([u]:List Value).length=pn.length:=G'.len _ _ _ _ sp1;refine (show wpAny _ _ (tryCatch (holding [u] (call (.ref q) [u])) _ >>= _) _ _ _ from aa (kx (da ?_)))
  refine wpAny_call (codeAny_mono (G'.run X.A.in1 X.stack _ H ⟨[u],[]⟩ [u] [v] _ E0 ((c.room.mono hj).in1) I2.env0.in1 (by
   have:=D'.bd { s with heap:=h' } [u] I2.kIn (by simpa using hl)
   simpa using this) (.cons ru .nil) sp1) fun r s2 hq=>?_)
  cases r with
  | error e=>exact hq.elim
  | ok fl=>
   cases fl with
   | next=>exact f9 hq
   | brk=>exact f9 hq
   | cont=>exact f9 hq
   | ret val=>
    obtain ⟨x2,H2,I3,rx2,φ2,p2,h2,pp2,tt2,rh2,rp2,po2⟩:=I2.after hq;have gk:=I3.pin (S,seqObj "list" best.toArray cc) (ao _ (ao _ ak));have gi:=I3.pin (it,oi) (ao _ (ao _ (aq _ ak)));have I4:Inv X pins σ H2 s2:=I3.unpinned;have st2:s2.heap.IsListIter it l (i+1):=st'.at fun o e=>by
     have:o=oi:=bg (e.symm.trans ei);rw [this]; exact gi.1
    have hn2:=gL pp2 hn;cases p2 with
    | int i'=>
     cases rp2
     obtain ⟨t,rfl⟩:=rx2;have again:∀ (o':Option (PV×Int)) (best':List Value) (cc':Nat) (g:Heap) (t':Nat),(∀ b o,b≠S->s2.heap.get? b=some o->g.get? b=some o)->g.get? S=some (seqObj "list" best'.toArray cc')->KO C φ2 H2 o' best'->post C φ2 H2 (dY f n xs (xs.drop (i+1)) o' h2) Q->
       codeAny (model X.prog X.w) X.A (.builtin "max.loop" ⟨[.ref it,.ref q,.ref S],[("default",.none)]⟩) (wants (EP X pins σ Q) X.xe) { s2 with heap:=g,toks:=t' }:=fun o' best' cc' g t' kp hb bo' po'=>by
      refine ih (i+1) _ H2 φ2 h2 o' best' cc' (by omega) hlt (I4.turned (t':=t') (it:=S) kp gk.2.1 fS.2.1 (.inr fS.1) fS.2.2.1 fS.2.2.2.1) gk.2.1 gi.2.1 hb (st2.at fun o e=>kp it o hne e) rh2 hn2 bo' po'
     have po2:post C φ2 H2 (dY f n xs (xs.drop (i+1)) (Cu o xs[i] i') h2) Q:=po2;cases o with
     | none=>
      cases bo
      refine (show wpAny _ _ (updateSeq S (fun _=>#[u,.int i' t]) >>= _) _ _ _ from aa (wpAny_updateSeq gk.1 rfl ?_ (by rw [c3]; simp) (by rw [c3]; simp)))
      obtain ⟨c2,hc2⟩:∃ c2,(s2.heap.update S (cu fun _=>#[u,.int i' t])).get? S=some (seqObj "list" #[u,.int i' t] c2):=⟨_,ik gk.1 fun _=>#[u,.int i' t]⟩;exact ag ⟨jt jx _,again (some (xs[i],i')) [u,.int i' t] c2 _ s2.toks (fun b o hb e=>by rw [jr _ _ _ _ hb]; exact e) hc2 ⟨v,u,t,rfl,ru,rvv.mono pp2 tt2⟩ po2⟩
     | some b=>
      obtain ⟨v0,u0,t0,rfl,ru0,rv0⟩:=bo;refine (show wpAny _ _ (tryCatch (holding [u,.int i' t] (richCompare .Gt (.int i' t) (.int b.2 t0) >>= _)) _ >>= _) _ _ _ from aa (kx (da (aa (PyProof.Rows.gt_int (a:=i') (b:=b.2) ?_)))))
      refine aa (da (ib (aa (wpAny_letGo (ag ?_)))));have eb:Cu (some b) xs[i] i'=if b.2 < i' then some (xs[i],i') else some b:=rfl
      by_cases hb:b.2 < i'
      ·rw [eb,if_pos hb] at po2;rw [if_pos (by simpa using hb)]
       refine aa (wpAny_updateSeq gk.1 rfl ?_ (by rw [c3]; simp) (by rw [c3]; simp));obtain ⟨c2,hc2⟩:∃ c2,(s2.heap.update S (cu fun _=>#[u,.int i' t])).get? S=some (seqObj "list" #[u,.int i' t] c2):=⟨_,ik gk.1 fun _=>#[u,.int i' t]⟩;exact aa (wpAny_letGo (ag ⟨jt jx _,again (some (xs[i],i')) [u,.int i' t] c2 _ s2.toks (fun b o hb e=>by rw [jr _ _ _ _ hb]; exact e) hc2 ⟨v,u,t,rfl,ru,rvv.mono pp2 tt2⟩ po2⟩))
      ·rw [eb,if_neg hb] at po2;rw [if_neg (by simpa using hb)]
       exact aa (wpAny_letGo (ag ⟨jt jx _,again (some b) [u0,.int b.2 t0] cc _ s2.toks (fun _ _ _ e=>e) gk.1 ⟨v0,u0,t0,rfl,ru0,rv0.mono pp2 tt2⟩ po2⟩))
    | _=>exact po2.elim
theorem HK (c:Cxt C k X) (D:Def C.K X.mg x st q fd pn) (G:aY X.prog X.w C.K X.mg X.base CX0 j q fd pn (spM C 1 f)) (hj:j+1<=k) {pins:List (Addr×Obj)} {s:Shared} {σ:St} {H:Hp} {Q:VK} {v:V} {u:Value} (I:Inv X pins σ H s) (ru:RelV v u) (h:r1 C (zL f) v H Q):
  wpAny (model X.prog X.w) X.A (call (.builtin "max") [u] [("key",.ref q),("default",.none)]) (EP X pins σ Q) X.xe s:=by
 obtain ⟨φ,h,p,rh,rp,po⟩:=h;unfold zL at po;cases p with
 | ref n=>
  simp only at po;cases el:aP h n with
  | none=>rw [el] at po; exact po.elim
  | some xs=>
   rw [el] at po;obtain ⟨a,rfl,ha⟩:=rp;cases ru
   obtain ⟨a2,vs,ha2,sq,rv⟩:=bP rh el;rw [ha] at ha2;cases ha2
   have sq':=sq;rw [<- c.K] at sq';obtain ⟨its,rvs,pl,hz⟩:=I.list sq';refine HH pl.isList ?_;have kp:∀ b o,s.heap.get? b=some o->((s.heap.push { cls:=.type "list_iterator",data:=.fields #[.ref a,.int 0 0] }).push (seqObj "list" #[] 0)).get? b=some o:=fun b o e=>ah _ (ah _ e);have fI:=uU I (ai s.heap.objs.size);have fS:=uU I (Nat.le_succ s.heap.objs.size);refine HJ (xs:=xs) (n:=n) (l:=a) c D G hj (a9 (Nat.lt_succ_self _)) fI fS xs.length 0 _ H φ h none [] 0 (by omega) (b8 _) (I.kept (t':=s.toks) kp) (I.hok.fresh (Nat.le_succ _)) (I.hok.fresh (ai _)) ?_ ?_ rh ha rfl (by rw [List.drop_zero]; exact po)
   ·have e:(s.heap.push { cls:=.type "list_iterator",data:=.fields #[.ref a,.int 0 0] }).objs.size=s.heap.objs.size+1:=by rw [jz]
    show ((s.heap.push _).push (seqObj "list" #[] 0)).get? (s.heap.objs.size+1)=_
    rw [<- e];exact ay _ rfl
   ·exact ⟨_,ah _ (ay _ rfl),rfl,rfl⟩
 | _=>exact po.elim
end
section
variable {C:MC} {k:Nat} {X:Cx} {kf:Str} {st:Stmt} {q:Addr} {fd:c5} {pn:List Str} {j jn:Nat} {f:Fn} {e:Expr} {me:Me} {p pos kp kpos rp rpos:Pos}
theorem KQ {Q:VK} {σ:St} {H:Hp} (h:rd C (Gr f me) σ H Q):Jw (rd C me) Q7 σ H fun vs H1=>∃ x,vs=[x]/\r1 C (zL f) x H1 Q:=by
 obtain ⟨φ,δ,h,rh,re,po⟩:=h;refine ⟨φ,δ,h,rh,re,(post.bind po).imp ?_⟩;rintro v H1 ⟨φ1,x,h1,p1,t1,rh1,rv1,q1⟩;exact ⟨v,rfl,φ1,h1,x,rh1,rv1,q1⟩
theorem R1 (D:Def C.K X.mg kf st q fd pn) (G:aY X.prog X.w C.K X.mg X.base CX0 j q fd pn (spM C 1 f)) (he:SE C k X e me) (hb:("max" : Str)∈C.bs) (hj:j+1<=k:=by decide) (hg:Gl X "max" := by rfl) (hgk:Gl X kf:=by rfl) (hdk:(kf == ("__debug__" : Str))=false:=by decide)
  (hst:bz [e] X.env=(false,eval e X.env) :: bz [] X.env:=by rfl) (hbk:backTo pos (bz [e] X.env)=(false,eval e X.env) :: backTo pos (bz [] X.env):=by rfl) (hpl:(backTo pos (bz [e] X.env)).any (·.1)=false:=by rfl):
  SE C k X (.Call (.Name "max" p) [e] [⟨some "key",.Name kf kp,kpos⟩,⟨some "default",.Constant .none jn rp,rpos⟩] pos) (Gr f me):=fun c pins s σ H Q I h=>by
 refine ix (pL I hg (c.bn _ hb) PyProof.Rows.Boot.«max» ?_ (by decide) (by decide));refine callWith_kw (thn (sS (he c) Ad hst pos pins s σ H _ I (KQ h)) fun us s1 hh=>?_) hbk hpl;obtain ⟨vs,H1,I1,rv,x,rfl,r⟩:=hh;obtain ⟨u,rfl,ru⟩:=vals1 rv;refine kws_cons (sR I1 hgk D.mg (kws_cons (Constant_none (kws_nil ?_))) hdk)
 show wpAny _ _ (call (.builtin "max") [u] [(jk "key",.ref q),(jk "default",.none)]) _ _ _
 exact HK c D G hj I1 ru r
end
end L2
namespace K80
open PySem L2
noncomputable section
noncomputable def zM:Ms:=
 (aX (bM 5 (aE vAt (mC (.str "abcdefghijklmnopqrstuvwxyz")) (aE gI (aE bF (aE mB (mV 0) (mC (.int 64))) (aE Ay (mV 4) (aE bF (mC (.int 1)) (aE gI (aE mB (mV 0) (mC (.int 3))) (mC (.int 8)))))) (mC (.int 26)))))
  (Ei (mMt isL (onL eX) (mV 3) (aC (aE bF (aE bF (aE Hu (mC (.str "k")) (mV 2)) (mV 5)) (aE Hu (mC (.str "k")) (aE Ee (aE Ee (mV 1) (mC (.int 1))) (mV 2)))) aJ))))
noncomputable def AU:Ms:=
 (aX (bM 1 (aE bF (mC (.int 1)) (aE gI (mV 0) (mC (.int 8)))))
 (aX (bM 2 (aE gI (aE mB (mV 0) (mC (.int 8))) (mV 1)))
 (aX (bM 3 (AA aJ))
 (aX (mF (jG (aC (aE bF (mC (.int 1)) (aE gI (aE mB (mV 0) (mC (.int 5))) (mC (.int 6)))) aJ)) (gN 4) zM)
 (cJ (mV 3))))))
noncomputable def sX:Fn:=mFn 6 AU
noncomputable def Ew:Ms:=
 (cJ (mCB qA (aC (mCB gP (aC (bE [none,some 0,some 1] (jG (aC (mCB dM (aC (mV 0) aJ)) aJ)) (gN 0) (bZ (aE vGt (aE vAt (mV 2) (mV 0)) (mC (.int 0)))) (fE (aC (aE vAt (mV 1) (mV 0)) (aC (aE vAt (mV 2) (mV 0)) aJ)))) aJ)) aJ)))
noncomputable def mM:Fn:=mFn 2 Ew
noncomputable def AV:Ms:=
 (aX (iF (yS (bZ (aE vEq (aE gI (mV 0) (mC (.int 2))) (mC (.int 1)))) (bZ (aE vGt (mV 0) (aE JZ (mC (.int 10)) (mC (.int 9))))))
  (cJ (aE gI (aE mB (mV 0) (mC (.int 2))) (aE JZ (mC (.int 10)) (mC (.int 9)))))
  jU)
 (aX (bM 2 (aE gI (aE Ay (aE bF (aE bF (mV 0) (aE Ay (mC (.int 7919)) (mV 1))) (mC (.int 1))) (mC (.int 48271))) (mC (.int 2147483647))))
 (cJ (aE gI (aE Ay (mV 2) (aE bF (aE mB (mV 2) (mC (.int 1009))) (mC (.int 69621)))) (mC (.int 2147483647))))))
noncomputable def oH:Fn:=mFn 3 AV
noncomputable def KR:Ms:=
 (aX (bM 3 (bL 2 oH (aC (mV 2) (aC (mC (.int 1)) aJ))))
 (aX (iF (bZ (aE uI (mV 0) (mC (.int 2))))
  (cJ (fE (aC (mC (.str "settle")) aJ)))
  jU)
 (aX (iF (yS (bZ (aE vEq (mV 0) (mC (.int 2)))) (bZ (aE vGt (mV 1) (mC (.int 0)))))
  (aX (bM 4 (aE bF (mC (.int 1)) (aE gI (mV 3) (mV 1))))
  (cJ (fE (aC (mC (.str "back")) (aC (mV 4) (aC (aE bF (mV 4) (aE gI (aE mB (mV 3) (mC (.int 64))) (aE Ee (aE bF (mV 1) (mC (.int 1))) (mV 4)))) aJ))))))
  jU)
 (cJ (fE (aC (mC (.str "add")) (aC (fE (aC (mC (.str "t")) (aC (mC (.int 1)) aJ))) (aC (aE gI (mV 2) (aE JZ (mC (.int 10)) (mC (.int 39)))) aJ))))))))
noncomputable def Cv:Fn:=mFn 5 KR
noncomputable def kA:Ms:=
 (aX (bM 5 (aE gI (mV 4) (mCB dM (aC (mV 1) aJ))))
  (aX (bM 6 (aE vAt (mV 2) (mV 5)))
  (aX (bM 7 (aE gI (aE mB (mV 4) (mCB dM (aC (mV 1) aJ))) (mC (.int 8))))
  (iF (bZ (aE uI (mV 7) (mC (.int 5))))
   (aX (bM 8 (fE (aC (aE vAt (mV 1) (mV 5)) (aC (aE bF (aE vAt (mV 6) (mV 5)) (mC (.int 1))) aJ))))
   (aX (bM 9 (fE (aC (mV 8) (aC (bL 2 mM (aC (mV 1) (aC (mV 6) aJ))) (aC (bL 3 Cv (aC (mV 7) (aC (aE vAt (mV 6) (mV 5)) (aC (aE mB (mV 4) (mC (.int 32))) aJ)))) aJ)))))
   (aX (jK (aE bF (aE vAt (mV 6) (mV 5)) (mC (.int 1))) (mV 6) (mV 5))
   (Ei (mMt isL (onL eX) (mV 3) (aC (fE (aC (mV 9) (aC (mCB yT (aC (mV 6) aJ)) aJ))) aJ))))))
   (aX (bM 10 (aE gI (aE bF (aE bF (mV 5) (mC (.int 1))) (aE gI (aE mB (mV 4) (mC (.int 32))) (mCB oG (aC (mC (.int 1)) (aC (aE Ee (mCB dM (aC (mV 1) aJ)) (mC (.int 1))) aJ))))) (mCB dM (aC (mV 1) aJ))))
   (aX (bM 11 (aE vAt (mV 2) (mV 10)))
   (aX (bM 12 (bE [none,some 1,some 10] (bH (mV 3)) (gN 0) (bZ (aE vEq (aE vAt (aE vAt (aE vAt (mV 0) (mC (.int 0))) (mC (.int 0))) (mC (.int 0))) (aE vAt (mV 1) (mV 2)))) (mV 0)))
   (aX (iF (yS (bZ (aE uI (mV 7) (mC (.int 7)))) (bZ (aE NV (mV 12) (AA aJ))))
    (bM 11 (aE vAt (aE vAt (mV 12) (aE gI (aE mB (mV 4) (mC (.int 64))) (mCB dM (aC (mV 12) aJ)))) (mC (.int 1))))
    jU)
   (jK (bE [none,some 6,some 11] (jG (aC (mCB dM (aC (mV 1) aJ)) aJ)) (gN 0) dS (mCB oG (aC (aE vAt (mV 1) (mV 0)) (aC (aE vAt (mV 2) (mV 0)) aJ)))) (mV 2) (mV 5))))))))))
noncomputable def qI:Ms:=
 (aX (bM 2 (bE [none,some 1] (bH (mV 1)) (gN 0) dS (bE [none] (bH (mV 1)) (gN 0) dS (mC (.int 0)))))
 (aX (bM 3 (AA aJ))
 (aX (mF (bH (mV 0)) (gN 4) kA)
 (cJ (bE [none] (bH (mV 3)) (gN 0) dS (aE vAt (mV 0) (mC (.int 0))))))))
noncomputable def kT:Fn:=mFn 13 qI
noncomputable def AW:Ms:=
 (aX (bM 2 (bE [none,some 0] (bH (mV 1)) (gN 0) dS (mCB dM (aC (bE [none,some 0] (bH (mV 1)) (gN 0) (bZ (aE vEq (aE vAt (aE vAt (mV 0) (mC (.int 0))) (mC (.int 0))) (mV 1))) (mV 0)) aJ))))
 (aX (bM 3 (bL 2 mM (aC (mV 1) (aC (mV 2) aJ))))
 (cJ (bE [none,some 3,some 1,some 2] (jG (aC (mCB dM (aC (mV 1) aJ)) aJ)) (gN 0) dS (fE (aC (fE (aC (aE vAt (mV 2) (mV 0)) (aC (aE bF (aE vAt (mV 3) (mV 0)) (mC (.int 1))) aJ))) (aC (mV 1) (aC (fE (aC (mC (.str "settle")) aJ)) aJ))))))))
noncomputable def oI:Fn:=mFn 4 AW
noncomputable def kB:Ms:=
 (cJ (aE vAt (aE vAt (mV 0) (mC (.int 0))) (mC (.int 1))))
noncomputable def cT:Fn:=mFn 1 kB
noncomputable def qJ:Ms:=
 (cJ (Gr cT (bE [none,some 0] (bH (mV 1)) (gN 0) (bZ (aE vEq (aE vAt (aE vAt (mV 0) (mC (.int 0))) (mC (.int 0))) (mV 1))) (mV 0))))
noncomputable def iH:Fn:=mFn 2 qJ
noncomputable def oJ:Ms:=
 (cJ (aE bF (mC (.int 1)) (mCB Km (aC (bE [none] (bH (aE vAt (mV 0) (mC (.int 1)))) (gN 0) dS (aE vAt (mV 0) (mC (.int 1)))) aJ))))
noncomputable def gX:Fn:=mFn 1 oJ
noncomputable def AX:Ms:=
 (aX (bM 2 (bE [none] (bH (mV 1)) (gN 0) (bZ (aE vEq (aE vAt (aE vAt (mV 0) (mC (.int 2))) (mC (.int 0))) (mC (.str "settle")))) (mV 0)))
 (aX (bM 3 (bE [none,some 2] (bH (mV 0)) (gN 0) dS (bL 2 iH (aC (mV 0) (aC (mV 1) aJ)))))
 (cJ (mCB zH (aC (bE [none] (bH (mV 3)) (gN 0) dS (mIf (bZ (aE vIs (mV 0) (mC .non))) (mC (.int 0)) (bL 1 gX (aC (mV 0) aJ)))) aJ)))))
noncomputable def kU:Fn:=mFn 4 AX
noncomputable def vC:Ms:=
 (jK (mCB oG (aC (mV 4) (aC (mMt eD En (mV 2) (aC (mV 3) (aC (mV 4) aJ))) aJ))) (mV 2) (mV 3))
noncomputable def vD:Ms:=
 (aX (bM 2 (mCB AQ (aC (mV 0) aJ)))
 (aX (mF (bH (mV 1)) (gTp 2 (gCn (gN 3) (gCn (gN 4) gNl))) vC)
 (cJ (mCB qA (aC (mCB gP (aC (NA eD uR (mV 2)) aJ)) aJ)))))
noncomputable def oK:Fn:=mFn 5 vD
noncomputable def qK:Ms:=
 (cJ (bL 2 oK (aC (mV 0) (aC (fE (aC (mV 1) aJ)) aJ))))
noncomputable def kW:Fn:=mFn 2 qK
noncomputable def AY:Ms:=
 (aX (bM 2 (bL 2 iH (aC (mV 0) (aC (mV 1) aJ))))
 (cJ (mIf (bZ (aE vIs (mV 2) (mC .non))) (fE aJ) (bL 2 kW (aC (aE vAt (mV 2) (mC (.int 1))) (aC (aE vAt (mV 2) (mC (.int 0))) aJ))))))
noncomputable def oM:Fn:=mFn 3 AY
noncomputable def Ex:Ms:=
 (aX (Hn (aE vAt (mV 0) (mC (.int 0))) (gTp 2 (gCn (gN 1) (gCn (gN 2) gNl))))
 (cJ (fE (aC (bL 1 gX (aC (mV 0) aJ)) (aC (mV 1) (aC (mV 2) aJ))))))
noncomputable def AZ:Fn:=mFn 3 Ex
noncomputable def oO:Ms:=
 (jK (mV 2) (mV 1) (aE vAt (mV 2) (mC (.int 0))))
noncomputable def mN:Ms:=
 (aX (bM 1 uC)
 (aX (mF (bH (mV 0)) (gN 2) oO)
 (cJ (qE AZ false (NA eD Cg (mV 1))))))
noncomputable def cH:Fn:=mFn 3 mN
noncomputable def vE:Ms:=
 (iF (bZ (aE vEq (mV 2) (aE vAt (mV 1) (mC (.int 0)))))
   (cJ (aE vLe (aE vAt (mV 1) (mC (.int 1))) (mV 3)))
   jU)
noncomputable def vF:Ms:=
 (aX (mF (bH (mV 0)) (gTp 2 (gCn (gN 2) (gCn (gN 3) gNl))) vE)
 (cJ (mC (.bl false))))
noncomputable def iI:Fn:=mFn 4 vF
noncomputable def Ey:Ms:=
 (aX (bM 2 (bL 2 kU (aC (mV 0) (aC (mV 1) aJ))))
 (aX (bM 3 (bE [none,some 2] (bH (bL 1 cH (aC (mV 1) aJ))) (gN 0) (bZ (aE vLe (bL 1 gX (aC (mV 0) aJ)) (mV 1))) (aE vAt (mV 0) (mC (.int 0)))))
 (aX (bM 4 (bE [none,some 1] (bH (mV 0)) (gN 0) dS (bL 2 oM (aC (mV 0) (aC (mV 1) aJ)))))
 (cJ (bE [none,some 4] (bH (mV 3)) (gN 0) (bZ (mCB Kn (aC (bE [none,some 0] (bH (mV 1)) (gN 0) dS (bL 2 iI (aC (mV 0) (aC (mV 1) aJ)))) aJ))) (mV 0))))))
noncomputable def B0:Fn:=mFn 5 Ey
noncomputable def qL:Ms:=
 (cJ (aE vAt (mV 0) (mC (.int 0))))
noncomputable def iJ:Fn:=mFn 1 qL
noncomputable def oP:Ms:=
 (aX (Hn (aE vAt (mV 2) (mC (.int 2))) (gTp 3 (gCn (gN 3) (gCn (gN 4) (gCn (gN 5) gNl)))))
  (iF (bZ (K7 vLe vLe (mV 4) (mV 0) (mV 5)))
   (cJ (aE vAt (mV 2) (mC (.int 0))))
   jU))
noncomputable def mO:Ms:=
 (aX (mF (bH (mV 1)) (gN 2) oP)
 (cJ (mC .non)))
noncomputable def jA:Fn:=mFn 6 mO
noncomputable def vG:Ms:=
 (aX (Hn (aE vAt (mV 3) (mC (.int 0))) (gTp 2 (gCn (gN 4) (gCn (gN 5) gNl))))
  (aX (bM 6 (aE vAt (aE vAt (mV 3) (mC (.int 2))) (mC (.int 0))))
  (aX (iF (bZ (aE vEq (mV 6) (mC (.str "settle"))))
   (aX (jK (AA aJ) (mV 2) (mV 4))
   QF)
   jU)
  (aX (bM 7 (bL 2 jA (aC (mV 5) (aC (mMt eD En (mV 2) (aC (mV 4) (aC (AA aJ) aJ))) aJ))))
  (iF (bZ (aE uA (mV 7) (mC .non)))
   (jK (mV 7) (mV 1) (aE vAt (mV 3) (mC (.int 0))))
   (iF (bZ (aE vEq (mV 6) (mC (.str "back"))))
    (Ei (mMt isL (onL eX) (mMt eD kR (mV 2) (aC (mV 4) (aC (AA aJ) aJ))) (aC (mV 3) aJ)))
    jU))))))
noncomputable def vH:Ms:=
 (aX (bM 1 uC)
 (aX (bM 2 uC)
 (aX (mF (bH (qE iJ true (mV 0))) (gN 3) vG)
 (cJ (mV 1)))))
noncomputable def oQ:Fn:=mFn 8 vH
noncomputable def mQ:Ms:=
 (aX (bM 1 (bL 1 cH (aC (mV 0) aJ)))
 (aX (bM 2 (bL 1 oQ (aC (mV 1) aJ)))
 (cJ (bE [none,some 2] (bH (mV 1)) (gN 0) (bZ (aE iY (aE vAt (mV 0) (mC (.int 0))) (mV 1))) (mV 0)))))
noncomputable def eO:Fn:=mFn 3 mQ
noncomputable def qM:Ms:=
 (aX (bM 2 (bL 2 kU (aC (mV 0) (aC (mV 1) aJ))))
 (cJ (bE [none,some 2] (bH (bL 1 eO (aC (mV 1) aJ))) (gN 0) (bZ (aE vLe (bL 1 gX (aC (mV 0) aJ)) (mV 1))) (mV 0))))
noncomputable def kX:Fn:=mFn 3 qM
noncomputable def B1:Ms:=
 (iF (bZ (aE vNe (bL 2 oM (aC (aE vAt (mV 2) (mV 11)) (aC (mV 8) aJ))) (bL 2 mM (aC (mV 2) (aC (aE bF (aE bF (mSl (mV 10) C6 (mP (mV 11))) (AA (aC (aE bF (aE vAt (mV 10) (mV 11)) (mC (.int 1))) aJ))) (mSl (mV 10) (mP (aE bF (mV 11) (mC (.int 1)))) C6)) aJ)))))
   (cJ (mC (.bl false)))
   jU)
noncomputable def KS:Ms:=
 (aX (bM 1 (mC (.int 0)))
 (aX (iF (bZ (aE vGt (mCB dM (aC (mV 0) aJ)) (mC (.int 0))))
  (bM 1 (aE vAt (mV 0) (mC (.int 0))))
  jU)
 (aX (bM 2 (bL 1 sX (aC (mV 1) aJ)))
 (aX (bM 3 (bL 2 kT (aC (mSl (mV 0) (mP (mC (.int 1))) (mP (mC (.int 31)))) (aC (mV 2) aJ))))
 (aX (bM 3 (aE bF (mV 3) (bL 2 oI (aC (mV 3) (aC (mV 2) aJ)))))
 (aX (bM 4 (bL 2 oI (aC (mV 3) (aC (mV 2) aJ))))
 (aX (bM 5 (mCB dM (aC (mV 3) aJ)))
 (aX (bM 6 (aE bF (mV 3) (mV 4)))
 (aX (bM 7 (aE gI (aE mB (mV 1) (mC (.int 7))) (mCB dM (aC (mV 6) aJ))))
 (aX (bM 8 (aE bF (mSl (mV 6) (mP (mV 7)) C6) (mUn uW (mSl (mV 6) C6 (mP (mV 7))))))
 (aX (iF (Nv (bZ (aE vNe (bL 2 kU (aC (mV 2) (aC (mV 8) aJ))) (aE bF (mV 5) (mC (.int 1))))) (bZ (aE vNe (bL 2 kX (aC (mV 2) (aC (mV 8) aJ))) (bL 1 eO (aC (mV 6) aJ)))))
  (cJ (mC (.bl false)))
  jU)
 (aX (bM 9 (mV 3))
 (aX (iF (bZ (aE vEq (mCB dM (aC (mV 2) aJ)) (mC (.int 1))))
  (bM 9 (mV 6))
  jU)
 (aX (iF (bZ (aE vNe (bL 2 B0 (aC (mV 2) (aC (mV 8) aJ))) (bE [none] (bH (bL 1 cH (aC (mV 9) aJ))) (gN 0) dS (aE vAt (mV 0) (mC (.int 0))))))
  (cJ (mC (.bl false)))
  jU)
 (aX (bM 10 (bE [none,some 3] (bH (mV 2)) (gN 0) dS (mCB dM (aC (bE [none,some 0] (bH (mV 1)) (gN 0) (bZ (aE vEq (aE vAt (aE vAt (mV 0) (mC (.int 0))) (mC (.int 0))) (mV 1))) (mV 0)) aJ))))
 (aX (mF (jG (aC (mCB dM (aC (mV 2) aJ)) aJ)) (gN 11) B1)
 (cJ (mC (.bl true)))))))))))))))))))
noncomputable def KU:Fn:=mFn 12 KS
end
end K80
namespace K80
open PySem L2
noncomputable abbrev Seen:=List (Str×Int)
noncomputable def ltS (a b:Str):Prop:=a.cps.toList < b.cps.toList
noncomputable def look:Seen->Str->Option Int
 | [],_=>none
 | p :: r,h=>if p.1=h then some p.2 else look r h
theorem fJ (p:Str×Int) (r:Seen) (h:Str):look (p :: r) h=if p.1=h then some p.2 else look r h:=(rfl)
noncomputable def Asc (S:Seen):Prop:=S.Pairwise fun a b=>ltS a.1 b.1
noncomputable def dput (kvs:Seen) (h:Str) (n:Int):Seen:=if (look kvs h).isSome then kvs.map (fun p=>if p.1=h then (p.1,n) else p) else kvs++[(h,n)]
noncomputable def emb (kvs:Seen):List (Key×PV):=kvs.map fun p=>(.inr p.1,.int p.2)
noncomputable def row (p:Str×Int):List Key:=[.inr p.1,.inl p.2]
noncomputable def sv (S:Seen):PV:=.tup (S.map fun p=>.tup [.str p.1,.int p.2])
theorem vI (h:Str):∀ kvs:Seen,aV (emb kvs) (.inr h)=(look kvs h).map PV.int
 | []=>rfl
 | p :: r=>by
  show aV ((k7 p.1,PV.int p.2) :: emb r) (.inr h)=_
  unfold aV look
  by_cases e:p.1=h
  ·rw [if_pos e,if_pos (by rw [e])]; rfl
  ·rw [if_neg e,if_neg (by simpa using e)]; exact vI h r
theorem Gu (kvs:Seen) (h:Str) (n:Int):dO (emb kvs) (.inr h) (.int n)=emb (dput kvs h n):=by
 unfold dO dput;rw [vI];cases look kvs h with
 | none=>simp [emb]
 | some m=>
  simp only [Option.map_some,iy,if_true];unfold emb;rw [bq,bq];apply dw;intro p _
  by_cases e:p.1=h
  ·simp [e]
  ·simp [e]
theorem qN {S:Seen} {h:Str}:look S h=none ↔ ∀ p∈S,p.1≠h:=by
 induction S with
 | nil=>simp [look]
 | cons p r ih=>
  unfold look
  by_cases e:p.1=h
  ·simp [e]
  ·simp [e,ih]
theorem iK {S:Seen} {h:Str} {n:Int} (e:look S h=some n):(h,n)∈S:=by
 induction S with
 | nil=>cases e
 | cons p r ih=>
  unfold look at e;split at e
  ·rename_i z;cases e
   rw [<- z];exact ak
  ·exact aq _ (ih e)
theorem KW {S T:Seen} {h:Str}:look (S++T) h=(look S h).or (look T h):=by
 induction S with
 | nil=>simp [look]
 | cons p r ih=>
  show look (p :: (r++T)) h=_
  rw [fJ,fJ];split
  ·simp
  ·exact ih
theorem KY {S:Seen} {h h':Str} {n:Int}:look (S.map fun p=>if p.1=h then (p.1,n) else p) h'=(look S h').map fun m=>if h'=h then n else m:=by
 induction S with
 | nil=>rfl
 | cons p r ih=>
  rw [a7]
  by_cases e:p.1=h
  ·rw [if_pos e];unfold look
   by_cases e':p.1=h'
   ·rw [if_pos e',if_pos e'];simp [<- e',e]
   ·rw [if_neg e',if_neg e']; exact ih
  ·rw [if_neg e];unfold look
   by_cases e':p.1=h'
   ·have:¬ h'=h:=fun z=>e (e'.trans z);rw [if_pos e',if_pos e'];simp [this]
   ·rw [if_neg e',if_neg e']; exact ih
theorem Cw (S:Seen) (h h':Str) (n:Int):look (dput S h n) h'=if h'=h then some n else look S h':=by
 unfold dput;cases e:look S h with
 | some m=>
  simp only [iy,if_true];rw [KY]
  by_cases z:h'=h
  ·subst z; simp [e]
  ·simp [z]
 | none=>
  simp only [Option.isSome_none,dq,if_false];rw [KW]
  by_cases z:h'=h
  ·subst z; simp [e,look]
  ·have z':¬ h=h':=fun q=>z q.symm;simp [look,z,z']
theorem keys_map {S:Seen} {h:Str} {n:Int}:(S.map fun p=>if p.1=h then (p.1,n) else p).map (·.1)=S.map (·.1):=by
 rw [bq];apply dw;intro p _
 by_cases e:p.1=h <;> simp [e]
theorem HL {S:Seen} {h:Str} {n:Int} (hn:(S.map (·.1)).Nodup):((dput S h n).map (·.1)).Nodup:=by
 unfold dput;cases e:look S h with
 | some m=>simp only [iy,if_true]; rw [keys_map]; exact hn
 | none=>
  simp only [Option.isSome_none,dq,if_false];rw [cj,ie];refine ⟨hn,by simp,fun x hx y hy=>?_⟩;obtain ⟨p,hp,rfl⟩:=az.mp hx;have:y=h:=by simpa using hy
  subst this;exact qN.mp e p hp
theorem NW {S:Seen} {h:Str} {n:Int}:(dput S h n).length<=S.length+1:=by
 unfold dput;split <;> simp
theorem fA {S:Seen} (hn:(S.map (·.1)).Nodup) {p:Str×Int} (hp:p∈S):look S p.1=some p.2:=by
 induction S with
 | nil=>cases hp
 | cons q r ih=>
  rw [a7,gg] at hn;unfold look;rcases bc.mp hp with rfl | hp
  ·simp
  ·have:¬ q.1=p.1:=fun z=>hn.1 (z ▸ az.mpr ⟨p,hp,rfl⟩);rw [if_neg this];exact ih hn.2 hp
theorem NX (a:Str):¬ ltS a a:=List.lt_irrefl _
theorem dH {S:Seen} (h:Asc S):(S.map (·.1)).Nodup:=by
 unfold List.Nodup;rw [c7];exact h.imp fun {a b} q e=>by rw [e] at q; exact NX _ q
theorem NY {S T:Seen} (hS:Asc S) (hT:Asc T) (h:∀ x,look S x=look T x):S=T:=by
 have nS:=dH hS;have nT:=dH hT;refine gu (le:=fun (a b:Str×Int)=>ltS a.1 b.1) (fun a b _ _ (h1:ltS a.1 b.1) (h2:ltS b.1 a.1)=>absurd h2 (List.lt_asymm h1)) hS hT ?_;refine (fw (dj _ (fun a b q e=>q (by rw [e])) nS) (dj _ (fun a b q e=>q (by rw [e])) nT)).mpr fun p=>?_;constructor
 ·intro hp;have:=fA nS hp;rw [h] at this;exact iK this
 ·intro hp;have:=fA nT hp;rw [<- h] at this;exact iK this
noncomputable def d1 (one:Seen):Seen:=one.foldl (fun acc p=>dput acc p.1 p.2) []
noncomputable def fB (acc:Seen) (p:Str×Int):Seen:=dput acc p.1 (if (look acc p.1).getD p.2 > p.2 then (look acc p.1).getD p.2 else p.2)
noncomputable def d2 (one other:Seen):Seen:=other.foldl fB (d1 one)
noncomputable def mx:Option Int->Option Int->Option Int
 | none,o=>o
 | some n,none=>some n
 | some n,some m=>some (if m > n then m else n)
theorem Gv:∀ (one:Seen) (acc:Seen),(one.map (·.1)).Nodup->∀ h,look (one.foldl (fun acc p=>dput acc p.1 p.2) acc) h=(look one h).or (look acc h)
 | [],acc,_,h=>by simp [look]
 | p :: r,acc,hn,h=>by
  rw [a7,gg] at hn;rw [List.foldl_cons,Gv r _ hn.2,Cw]
  show _=(look (p :: r) h).or _
  rw [fJ]
  by_cases e:p.1=h
  ·have:look r h=none:=qN.mpr fun q hq z=>hn.1 (by rw [e,<- z]; exact az.mpr ⟨q,hq,rfl⟩);rw [if_pos e.symm,if_pos e,this];rfl
  ·rw [if_neg fun z=>e z.symm,if_neg e]
theorem zN:∀ (other:Seen) (acc:Seen),(other.map (·.1)).Nodup->∀ h,look (other.foldl fB acc) h=mx (look other h) (look acc h)
 | [],acc,_,h=>rfl
 | p :: r,acc,hn,h=>by
  rw [a7,gg] at hn;rw [List.foldl_cons,zN r _ hn.2];unfold fB;rw [Cw]
  show _=mx (look (p :: r) h) _
  rw [fJ]
  by_cases e:p.1=h
  ·have:look r h=none:=qN.mpr fun q hq z=>hn.1 (by rw [e,<- z]; exact az.mpr ⟨q,hq,rfl⟩);rw [if_pos e.symm,if_pos e,this,e];cases look acc h with
   | none=>simp [mx]
   | some m=>simp [mx]
  ·rw [if_neg fun z=>e z.symm,if_neg e]
theorem mR:∀ (other:Seen) (acc:Seen) (f:Seen->Str×Int->Int),(acc.map (·.1)).Nodup->((other.foldl (fun a p=>dput a p.1 (f a p)) acc).map (·.1)).Nodup
 | [],_,_,h=>h
 | _ :: r,_,f,h=>mR r _ f (HL h)
theorem oR:∀ (other:Seen) (acc:Seen) (f:Seen->Str×Int->Int),(other.foldl (fun a p=>dput a p.1 (f a p)) acc).length<=acc.length+other.length
 | [],_,_=>ai _
 | p :: r,acc,f=>by
  have h1:=oR r (dput acc p.1 (f acc p)) f;have h2:=NW (S:=acc) (h:=p.1) (n:=f acc p);rw [List.foldl_cons,dk];omega
noncomputable def Cy:List Key->Str×Int
 | [.inr x,.inl n]=>(x,n)
 | _=>("",0)
theorem KZ {a b:Str} (h:a.cps.toList=b.cps.toList):a=b:=by
 obtain ⟨x⟩:=a;obtain ⟨y⟩:=b
 congr 1
 exact Array.toList_inj.mp h
theorem NZ {a b:Str×Int} (h:bR (row b) (row a)=false) (hne:a.1≠b.1):ltS a.1 b.1:=by
 unfold row bR at h;rw [if_neg (fun z=>hne (by injection z with z; exact z.symm))] at h;have h':¬ b.1.cps.toList < a.1.cps.toList:=by simpa [keyLt] using h
 rcases Classical.em (a.1.cps.toList < b.1.cps.toList) with q | q
 ·exact q
 ·exact absurd (KZ (List.le_antisymm h' q)) hne
theorem rY {D:Seen} (hn:(D.map (·.1)).Nodup):∃ S:Seen,cS (D.map row)=S.map row/\S.Perm D/\Asc S:=by
 have hp:=eZ (D.map row);have e1:(D.map row).map Cy=D:=by
  rw [bq]
  conv=>rhs; rw [<- List.map_id D]
  rfl
 have p2:((cS (D.map row)).map Cy).Perm D:=by
  have:=hp.map Cy
  rwa [e1] at this
 have e2:((cS (D.map row)).map Cy).map row=cS (D.map row):=by
  rw [bq]
  conv=>rhs; rw [<- List.map_id (cS (D.map row))]
  apply dw;intro z hz;obtain ⟨p,_,rfl⟩:=az.mp (hp.mem_iff.mp hz);rfl
 refine ⟨_,e2.symm,p2,?_⟩;have s1:(cS (D.map row)).Pairwise (fun a b=>bR b a=false):=hW (S:=[false,true]) fun y hy=>by
  obtain ⟨p,_,rfl⟩:=az.mp hy; rfl
 rw [<- e2,c7] at s1;have n1:(((cS (D.map row)).map Cy).map (·.1)).Nodup:=(p2.map (·.1)).nodup_iff.mpr hn;unfold List.Nodup at n1;rw [c7] at n1;exact (s1.and n1).imp fun {a b} h=>NZ h.1 h.2
theorem zO:∀ S:Seen,jW (S.map fun p=>PV.tup [.str p.1,.int p.2])=some (emb S)
 | []=>rfl
 | p :: r=>by
  rw [a7];unfold jW;rw [zO r];rfl
theorem zP:∀ (S acc:Seen),qC (emb acc) (emb S)=emb (S.foldl (fun acc p=>dput acc p.1 p.2) acc)
 | [],_=>rfl
 | p :: r,acc=>by
  show qC (dO (emb acc) (.inr p.1) (.int p.2)) (emb r)=_
  rw [Gu,zP r];rfl
theorem zQ (D:Seen):lN (D.map row)=true:=by
 cases D with
 | nil=>rfl
 | cons p r=>
  rw [a7];unfold lN;rw [cm];refine ⟨rfl,cg.mpr fun z hz=>?_⟩;obtain ⟨q,_,rfl⟩:=az.mp hz;rfl
theorem zR {n:Nat} {h:PH} {S:Seen} (e:h[n]?=some (.lst ((S.map row).map tP))):qA [.ref n] h=.ok (sv S) h:=by
 simp [qA,aP,e];unfold sv
 congr 1
theorem HM (one other:Seen) (n1:(one.map (·.1)).Nodup) (n2:(other.map (·.1)).Nodup) (hl:one.length+other.length < 64) (h:PH) (Q:PV->PH->Prop)
  (k:∀ S h',Ext h h'->Asc S->S.length<=one.length+other.length->(∀ x,look S x=mx (look other x) (look one x))->Q (sv S) h'):(oK [sv one,sv other] h).W Q:=by
 refine fG ?_;have m0:qC [] (emb one)=emb (d1 one):=zP one [];have hd1:(d1 one).length<=one.length:=by
  have h0:(d1 one).length<=([]:Seen).length+one.length:=oR one [] (fun _ p=>p.2);simpa using h0
 have ed:∀ h,AQ [.tup (one.map fun p=>PV.tup [.str p.1,.int p.2])] h=uP [.tup (one.map fun p=>PV.tup [.str p.1,.int p.2])] h:=fun h=>rfl;simp [vD,aM,sv,ed,Ce (zO one),m0];refine now ?_;rw [aM];refine Kg (xs:=other.map fun p=>PV.tup [.str p.1,.int p.2]) (fun q δ h'=>h'=h++[.dK (emb ((other.take q).foldl fB (d1 one)))]/\∃ x3 x4,δ=[some (sv one),some (sv other),some (.ref h.length),x3,x4]) ?_ ?_ ?_ ?_
 ·left; simp [sv]
 ·exact ⟨by simp,_,_,rfl⟩
 ·rintro q x δ h' hx ⟨rfl,x3,x4,rfl⟩;rw [aj] at hx;obtain ⟨p,hp,rfl⟩:=bf.mp hx;refine ⟨_,rfl,?_⟩;have g:(h++[MO.dK (emb ((other.take q).foldl fB (d1 one)))])[h.length]?=some (.dK (emb ((other.take q).foldl fB (d1 one)))):=aK;have hlen:(emb ((other.take q).foldl fB (d1 one))).length < 16777216:=by
   unfold emb;rw [ae];have:=oR (other.take q) (d1 one) (fun acc p=>if (look acc p.1).getD p.2 > p.2 then (look acc p.1).getD p.2 else p.2);have e:(List.take q other).length<=other.length:=by rw [d9]; omega
   show ((other.take q).foldl fB (d1 one)).length < _
   have:((other.take q).foldl fB (d1 one)).length<=(d1 one).length+(other.take q).length:=this;omega
  have e0:(aV (emb ((other.take q).foldl fB (d1 one))) (k7 p.1)).getD (PV.int p.2)=.int ((look ((other.take q).foldl fB (d1 one)) p.1).getD p.2):=by
   rw [vI];cases look ((other.take q).foldl fB (d1 one)) p.1 <;> rfl
  have e1:(other.take (q+1)).foldl fB (d1 one)=fB ((other.take q).foldl fB (d1 one)) p:=by
   rw [ig,hp,List.foldl_append];rfl
  have e2:∀ o:MO,(h++[MO.dK (emb ((other.take q).foldl fB (d1 one)))]).set h.length o=h++[o]:=fun o=>by
   rw [List.set_append_right _ _ (ai _),Nat.sub_self];rfl
  simp [vC,oC g,Gj g,e0,NT g hlen,Gu,e1,e2,fB]
 ·rintro δ h' ⟨rfl,x3,x4,rfl⟩;rw [ae,jw];refine now ?_;have hn:((d2 one other).map (·.1)).Nodup:=mR other (d1 one) _ (mR one [] _ List.nodup_nil);obtain ⟨S,eS,pS,aS⟩:=rY hn;have hlen:(d2 one other).length<=one.length+other.length:=by
   have h0:(d2 one other).length<=(d1 one).length+other.length:=oR other (d1 one) (fun acc p=>if (look acc p.1).getD p.2 > p.2 then (look acc p.1).getD p.2 else p.2);omega
  have g:(h++[MO.dK (emb (d2 one other))])[h.length]?=some (.dK (emb (d2 one other))):=aK;have g1:(h++[MO.dK (emb (d2 one other))]++[MO.vw 0 h.length])[(h++[MO.dK (emb (d2 one other))]).length]?=some (.vw 0 h.length):=aK;have g2:(h++[MO.dK (emb (d2 one other))]++[MO.vw 0 h.length])[h.length]?=some (.dK (emb (d2 one other))):=Ext.app _ _ _ _ g;have ek:(emb (d2 one other)).map (fun kv=>PV.tup [kP kv.1,kv.2])=((d2 one other).map row).map tP:=by
   unfold emb;rw [bq,bq];rfl
  have hs:=wZ g1 g2 ek (by rw [ae]; omega) (zQ _);rw [eS] at hs;have e3:∀ x:PH,(x++[MO.lst ((S.map row).map tP)])[x.length]?=some (.lst ((S.map row).map tP)):=fun x=>aK;have look2:∀ x,look S x=mx (look other x) (look one x):=fun x=>by
   have e5:look S x=look (d2 one other) x:=by
    have nS:(S.map (·.1)).Nodup:=dH aS;cases e6:look S x with
    | some n=>exact (fA hn (pS.mem_iff.mp (iK e6))).symm
    | none=>
     cases e7:look (d2 one other) x with
     | none=>rfl
     | some m=>exact absurd e6 (by rw [fA nS (pS.mem_iff.mpr (iK e7))]; simp)
   rw [e5];unfold d2;rw [zN other _ n2];unfold d1;rw [Gv one _ n1];simp [look]
  show (cJ _ _ (h++[MO.dK (emb (d2 one other))])).W _
  rw [nR,mG,fY,mG,fY,ND];simp only [Pk,yR,yQ,Rs.bind_ok,oC g,if_true,Hx g,nU,hs,zR (e3 _),dN];exact k S _ ((Ext.app _ _).trans ((Ext.app _ _).trans (Ext.app _ _))) aS (by rw [pS.length_eq]; exact hlen) look2
noncomputable abbrev L0:Str:="abcdefghijklmnopqrstuvwxyz"
theorem L1:L0.cps.toList.length=26:=by decide +kernel
theorem HN:L0.length=26:=by decide +kernel
theorem L3:∀ i:Fin 26,L0.cps.toList[i.val]?=some (97+i.val):=by decide +kernel
theorem L4 {x:Str} {c:Nat}:(x++(⟨#[c]⟩:Str)).length=x.length+1:=by
 rw [Str.length_append]; rfl
theorem O0 {i:Int} (h0:0<=i) (h1:i < 26):atI L0.cps.toList i=some (97+i.toNat):=by
 rw [NH h0 (by rw [L1]; exact h1)];exact L3 ⟨i.toNat,by omega⟩
theorem app_list (x y:Str):(x++y).cps.toList=x.cps.toList++y.cps.toList:=PySem.W.KT.app_list x y
noncomputable def pv (p:Str×Int):PV:=.tup [.str p.1,.int p.2]
theorem B2 {p q:Str×Int} (h:pv p=pv q):p=q:=by
 obtain ⟨a,b⟩:=p;obtain ⟨c,d⟩:=q;simp [pv] at h;simp [h]
theorem Gw (S:Seen):sv S=.tup (S.map pv):=rfl
theorem R3 (S:Seen):(S.map pv).all (PV.pl 39)=true:=by
 rw [cg];intro x hx;obtain ⟨p,_,rfl⟩:=az.mp hx;rfl
theorem TM (S:Seen):(sv S).pl 40=true:=R3 S
theorem Ez (one:Seen) (p:Str×Int) (n1:(one.map (·.1)).Nodup) (hl:one.length<=20) (h:PH) (Q:PV->PH->Prop)
  (k:∀ S h',Ext h h'->Asc S->S.length<=21->(∀ x,look S x=mx (look [p] x) (look one x))->Q (sv S) h'):(kW [sv one,pv p] h).W Q:=by
 refine fG ?_;simp [qK];exact HM one [p] n1 (by simp) (by simp; omega) _ _ fun S h' hx aS hS lk=>k S h' hx aS (by simp at hS; omega) lk
noncomputable def kC (hs:List Str) (c:List Int) (x:Str):Option Int:=if x∈hs/\0 < c.getD (hs.idxOf x) 0 then some (c.getD (hs.idxOf x) 0) else none
structure cD (hs:List Str) (c:List Int) (S:Seen):Prop where
 asc:Asc S
 lk:∀ x,look S x=kC hs c x
theorem cD.len {hs:List Str} {c:List Int} {S:Seen} (a:cD hs c S):S.length<=hs.length:=by
 have nS:=dH a.asc;have:=gm nS (l₂:=hs) fun x hx=>by
  obtain ⟨p,hp,rfl⟩:=az.mp hx;have e:=fA nS hp;rw [a.lk] at e;unfold kC at e;split at e
  ·rename_i z; exact z.1
  ·cases e
 rwa [ae] at this
theorem cD.one {hs:List Str} {c:List Int} {S T:Seen} (a:cD hs c S) (b:cD hs c T):S=T:=NY a.asc b.asc fun x=>(a.lk x).trans (b.lk x).symm
noncomputable def prs (hs:List Str) (c:List Int) (k:Nat):Option (Str×Int):=if 0 < c.getD k 0 then some (hs.getD k "",c.getD k 0) else none
theorem Gx {hs:List Str} {c:List Int} (nd:hs.Nodup) {x:Str} {n:Int}:(x,n)∈(ax hs.length).filterMap (prs hs c) ↔ kC hs c x=some n:=by
 rw [List.mem_filterMap];unfold kC prs;constructor
 ·rintro ⟨k,hk,e⟩;have hk:=d4.mp hk;split at e
  ·rename_i hp;have e:=bg e;have e1:hs.getD k "" = x:=congrArg Prod.fst e;have e2:c.getD k 0=n:=congrArg Prod.snd e;have e3:hs.getD k "" = hs[k]:=by simp [hk]
   rw [e3] at e1;have hi:hs.idxOf x=k:=by rw [<- e1]; exact ll nd k hk
   have hm:x∈hs:=by rw [<- e1]; exact ee hk
   rw [hi,if_pos ⟨hm,hp⟩,e2]
  ·cases e
 ·intro e;split at e
  ·rename_i hp;have hi:=List.idxOf_lt_length_iff.mpr hp.1;refine ⟨hs.idxOf x,d4.mpr hi,?_⟩;rw [if_pos hp.2];have e3:hs.getD (hs.idxOf x) "" = x:=by simp [hi]
   rw [e3,bg e]
  ·cases e
theorem L5 {hs:List Str} {c:List Int} (nd:hs.Nodup):(((ax hs.length).filterMap (prs hs c)).map (·.1)).Nodup:=by
 have sub:(((ax hs.length).filterMap (prs hs c)).map (·.1)).Sublist ((ax hs.length).map fun k=>hs.getD k ""):=by
  generalize ax hs.length=ks
  induction ks with
  | nil=>simp
  | cons k ks ih=>
   rw [dg];unfold prs;split
   ·rename_i e;exact (List.Sublist.cons _ ih)
   ·rename_i b e;split at e
    ·cases e
     rw [a7,a7];exact ih.cons_cons _
    ·cases e
 have e:(ax hs.length).map (fun k=>hs.getD k "")=hs:=by
  apply List.ext_getElem
  ·simp
  ·intro i h1 h2;simp [h2]
 rw [e] at sub;exact sub.nodup nd
theorem B3 {hs:List Str} (nd:hs.Nodup) (h6:hs.length<=6) {c:List Int} (lc:c.length=hs.length) {lh l:Nat} {h:PH} (gh:h[lh]?=some (.lst (hs.map PV.str))) (gc:h[l]?=some (.lst (c.map PV.int))) (Q:PV->PH->Prop) (k:∀ S h',Ext h h'->cD hs c S->Q (sv S) h'):(mM [.ref lh,.ref l] h).W Q:=by
 refine fG ?_;unfold Ew;have hlv:=cZ gh;rw [ae] at hlv;have hc:=uJ (js:=[none,some 0,some 1]) (tg:=gN 0) (tst:=bZ (aE vGt (aE vAt (mV 2) (mV 0)) (mC (.int 0)))) (elt:=fE (aC (aE vAt (mV 1) (mV 0)) (aC (aE vAt (mV 2) (mV 0)) aJ))) (δ:=[some (.ref lh),some (.ref l)]) (h:=h) (h1:=h) (ms:=aC (mCB dM (aC (mV 0) aJ)) aJ) (j:=(hs.length:Int))
  (fun k=>(prs hs c k).map pv) (by simp [hlv]) (by omega) (fun i hi=>⟨[some (.int (i:Int)),some (.ref lh),some (.ref l)],by simp [cB],fun h' x'=>by
   have hi':i < hs.length:=by omega
   have e1:atI (hs.map PV.str) (i:Int)=some (.str (hs.getD i "")):=dQ (by rw [aj]; simp [hi']);have e2:atI (c.map PV.int) (i:Int)=some (.int (c.getD i 0)):=dQ (by rw [aj]; simp [lc,hi']);have v1:vIx (.ref lh) (.int (i:Int)) h'=.ok (.str (hs.getD i "")) h':=by rw [cW (x' _ _ gh),e1]; rfl
   have v2:vIx (.ref l) (.int (i:Int)) h'=.ok (.int (c.getD i 0)) h':=by rw [cW (x' _ _ gc),e2]; rfl
   unfold prs;generalize c.getD i 0=cv at v2;generalize hs.getD i "" = hv at v1
   by_cases hp:0 < cv
   ·simp [hp,v1,v2,pv]
   ·simp [hp,v2]⟩)
 have e0:(ax ((hs.length:Int)).toNat).filterMap (fun k=>(prs hs c k).map pv)=(((ax hs.length).filterMap (prs hs c)).map row).map tP:=by
  rw [bq,ic];generalize ax hs.length=ks
  induction ks with
  | nil=>rfl
  | cons k ks ih=>
   rw [dg,dg,ih];cases prs hs c k <;> rfl
 rw [e0] at hc;have nP:=L5 (c:=c) nd;have hm:=fun x n=>Gx (c:=c) nd (x:=x) (n:=n);have lP:((ax hs.length).filterMap (prs hs c)).length<=hs.length:=by
  have:=List.length_filterMap_le (prs hs c) (ax hs.length);simpa using this
 generalize (ax hs.length).filterMap (prs hs c)=P at hc nP hm lP;obtain ⟨S,eS,pS,aS⟩:=rY nP;have gp:(h++[MO.lst ((P.map row).map tP)])[h.length]?=some (.lst ((P.map row).map tP)):=aK;have hso:=AK gp (by rw [ae]; omega) (zQ P);rw [eS] at hso;have e3:∀ x:PH,(x++[MO.lst ((S.map row).map tP)])[x.length]?=some (.lst ((S.map row).map tP)):=fun x=>aK;rw [show List.map some [PV.ref lh,PV.ref l]++c4 (2 - [PV.ref lh,PV.ref l].length) none=[some (.ref lh),some (.ref l)] from rfl,nR,mG,fY,mG,fY]
 simp only [hc,Rs.bind_ok,nU,hso,zR (e3 _),dN];refine k S _ ((Ext.app _ _).trans (Ext.app _ _)) ⟨aS,fun x=>?_⟩;cases e:kC hs c x with
 | some n=>exact fA (dH aS) (p:=(x,n)) (pS.mem_iff.mpr ((hm x n).mpr e))
 | none=>
  cases e2:look S x with
  | none=>rfl
  | some m=>
   have:=(hm x m).mp (pS.mem_iff.mp (iK e2));rw [e] at this;cases this
theorem HP {hs:List Str} {c:List Int} {w:Nat} (nd:hs.Nodup) (lc:c.length=hs.length) (hw:w < hs.length) {n:Int} (hn:c.getD w 0=n) (h0:0<=n) {S T:Seen} (a:cD hs c S) (aT:Asc T) (lT:∀ x,look T x=mx (look [(hs.getD w "",n+1)] x) (look S x)):cD hs (c.set w (n+1)) T:=by
 refine ⟨aT,fun x=>?_⟩;rw [lT x,a.lk x];have ew:hs.getD w "" = hs[w]:=by simp [hw]
 rw [ew,fJ]
 by_cases e:hs[w]=x
 ·have hi:hs.idxOf x=w:=by rw [<- e]; exact ll nd w hw
  have hm:x∈hs:=by rw [<- e]; exact ee hw
  rw [if_pos e];have e2:(c.set w (n+1)).getD w 0=n+1:=by simp [lc,hw]
  have R:kC hs (c.set w (n+1)) x=some (n+1):=by
   unfold kC;rw [hi,e2,if_pos ⟨hm,by omega⟩]
  rw [R];unfold kC;rw [hi,hn]
  by_cases hp:0 < n
  ·rw [if_pos ⟨hm,hp⟩];simp only [mx];rw [if_neg (show ¬ (n > n+1) by omega)]
  ·rw [if_neg (fun z=>hp z.2)];rfl
 ·rw [if_neg e];have hne:x∈hs->hs.idxOf x≠w:=fun hm z=>e (by
   have:=List.getElem_idxOf (List.idxOf_lt_length_iff.mpr hm);simp only [z] at this;exact this)
  unfold kC
  by_cases hm:x∈hs
  ·have e2:(c.set w (n+1)).getD (hs.idxOf x) 0=c.getD (hs.idxOf x) 0:=by
    simp [a8 (i8 (hne hm))]
   rw [e2];rfl
  ·rw [if_neg (fun z=>hm z.1),if_neg (fun z=>hm z.1)];rfl
inductive Ac where
 | settle
 | back (a b:Int)
 | add (n:Int)
noncomputable def acV:Ac->PV
 | .settle=>.tup [.str "settle"]
 | .back a b=>.tup [.str "back",.int a,.int b]
 | .add n=>.tup [.str "add",.tup [.str "t",.int 1],.int n]
noncomputable def acS:Ac->Str
 | .settle=>"settle"
 | .back _ _=>"back"
 | .add _=>"add"
noncomputable def acB:Ac->Bool
 | .settle=>true
 | _=>false
theorem ac0 (a:Ac) (h:PH):vIx (acV a) (.int 0) h=.ok (.str (acS a)) h:=by cases a <;> simp [acV,acS]
theorem Vi (a:Ac):decide (acS a="settle")=acB a:=by
 have n1:¬ ("back" : Str)="settle" := by decide +kernel
 have n2:¬ ("add" : Str)="settle" := by decide +kernel
 cases a with
 | settle=>exact decide_eq_true rfl
 | back a b=>exact decide_eq_false n1
 | add n=>exact decide_eq_false n2
structure De where
 nm:Str×Int
 sn:Seen
 ac:Ac
noncomputable def deV (d:De):PV:=.tup [pv d.nm,sv d.sn,acV d.ac]
theorem de0 (d:De) (h:PH):vIx (deV d) (.int 0) h=.ok (pv d.nm) h:=by unfold deV; simp
theorem de1 (d:De) (h:PH):vIx (deV d) (.int 1) h=.ok (sv d.sn) h:=by unfold deV; simp
theorem de2 (d:De) (h:PH):vIx (deV d) (.int 2) h=.ok (acV d.ac) h:=by unfold deV; simp
theorem pv0 (p:Str×Int) (h:PH):vIx (pv p) (.int 0) h=.ok (.str p.1) h:=by unfold pv; simp
theorem pv1 (p:Str×Int) (h:PH):vIx (pv p) (.int 1) h=.ok (.int p.2) h:=by unfold pv; simp
theorem R4 (d:De):(deV d).pl 39=true:=by
 show [pv d.nm,sv d.sn,acV d.ac].all (PV.pl 38)=true
 have e1:(sv d.sn).pl 38=true:=by
  rw [Gw]
  show (d.sn.map pv).all (PV.pl 37)=true
  rw [List.all_map];exact cg.mpr fun y _=>rfl
 have e2:(acV d.ac).pl 38=true:=by cases d.ac <;> rfl
 have e0:(pv d.nm).pl 38=true:=rfl;simp [e0,e1,e2]
theorem HQ (d:De) (h:PH):cT [deV d] h=.ok (.int d.nm.2) h:=by
 have w:(cT [deV d] h).W fun q h'=>q=.int d.nm.2/\h'=h:=by
  refine fG ?_;simp [kB,de0,pv1]
 obtain ⟨q,h',e,rfl,rfl⟩:=uG w;exact e
noncomputable def O1 (d:De):Int:=1+(d.sn.map (·.2)).sum
theorem L6 (d:De) (ld:d.sn.length<=1000) (h:PH) (Q:PV->PH->Prop) (k:∀ h',Ext h h'->Q (.int (O1 d)) h'):(gX [deV d] h).W Q:=by
 refine fG ?_;unfold oJ;have hc:=yZ (m:=aE vAt (mV 0) (mC (.int 1))) (js:=[none]) (tg:=gN 0) (tst:=dS) (elt:=aE vAt (mV 0) (mC (.int 1))) (δ:=[some (deV d)]) (h:=h) (h1:=h) (ys:=d.sn) (emb:=pv)
  (fun p=>some (.int p.2)) (by simp [de1,Gw]) (by omega) (fun p _=>⟨[some (pv p)],by simp [cB],fun h' _=>⟨rfl,by simp [pv1]⟩⟩)
 rw [filterMap_some (fun p:Str×Int=>PV.int p.2) d.sn] at hc;have g1:(h++[MO.lst (d.sn.map fun p=>PV.int p.2)])[h.length]?=some (.lst ((d.sn.map (·.2)).map PV.int)):=by rw [bq]; exact aK
 have x1:Ext h (h++[MO.lst (d.sn.map fun p=>PV.int p.2)]):=Ext.app _ _;generalize h++[MO.lst (d.sn.map fun p=>PV.int p.2)]=hA at hc g1 x1;have vs:=Cb g1;rw [show List.map some [deV d]++c4 (1 - [deV d].length) none=[some (deV d)] from rfl]
 simp [hc,vs];exact k _ x1
noncomputable def mxD (o:Option De) (d:De):Option De:=match o with
 | some b=>if b.nm.2 < d.nm.2 then some d else some b
 | none=>some d
noncomputable def maxD (ds:List De):Option De:=ds.foldl mxD none
theorem vJ:∀ (ds:List De) (o:Option De),(ds.foldl mxD o=none ↔ o=none/\ds=[])/\∀ d,ds.foldl mxD o=some d->(o=some d\/d∈ds)/\(∀ b,o=some b->b.nm.2<=d.nm.2)/\∀ b∈ds,b.nm.2<=d.nm.2
 | [],o=>⟨by simp,fun d e=>⟨.inl e,fun b eb=>by rw [List.foldl_nil] at e; rw [e] at eb; cases eb; exact jd _,fun b hb=>by simp at hb⟩⟩
 | x :: ds,o=>by
  obtain ⟨a,b⟩:=vJ ds (mxD o x);have ne:mxD o x≠none:=by unfold mxD; split <;> (try split) <;> simp
  refine ⟨⟨fun e=>absurd (a.mp e).1 ne,fun e=>by simp at e⟩,fun d e=>?_⟩;obtain ⟨h1,h2,h3⟩:=b d e;have le:∀ y,mxD o x=some y->x.nm.2<=y.nm.2/\(∀ b,o=some b->b.nm.2<=y.nm.2)/\(o=some y\/y=x):=fun y ey=>by
   unfold mxD at ey;cases o with
   | none=>cases ey; exact ⟨jd _,fun b eb=>(by cases eb),.inr rfl⟩
   | some b=>
    simp only at ey;split at ey
    ·rename_i hlt;cases ey
     exact ⟨jd _,fun b' eb=>by cases eb; omega,.inr rfl⟩
    ·rename_i hge;cases ey
     exact ⟨by omega,fun b' eb=>by cases eb; exact jd _,.inl rfl⟩
  obtain ⟨y,ey⟩:=Option.ne_none_iff_exists'.mp ne;obtain ⟨l1,l2,l3⟩:=le y ey;have ly:=h2 y ey;refine ⟨?_,fun b eb=>Int.le_trans (l2 b eb) ly,fun b hb=>?_⟩
  ·rcases h1 with h1 | h1
   ·rw [ey] at h1;cases h1
    rcases l3 with l3 | l3
    ·exact .inl l3
    ·exact .inr (by rw [l3]; exact ak)
   ·exact .inr (aq _ h1)
  ·rcases bc.mp hb with rfl | hb
   ·exact Int.le_trans l1 ly
   ·exact h3 b hb
theorem HS {ds:List De}:maxD ds=none ↔ ds=[]:=by
 have:=(vJ ds none).1;unfold maxD;simpa using this
theorem zS {ds:List De} {d:De} (h:maxD ds=some d):d∈ds/\∀ b∈ds,b.nm.2<=d.nm.2:=by
 obtain ⟨a,_,c⟩:=(vJ ds none).2 d h;exact ⟨a.resolve_left (by simp),c⟩
theorem Cz {n:Nat} {h:PH} {xs:List PV} (g:h[n]?=some (.lst xs)):∀ (ds:List De) (o:Option De),dY cT n xs (ds.map deV) (o.map fun d=>(deV d,d.nm.2)) h=.ok (match ds.foldl mxD o with | some d=>deV d | none=>.non) h
 | [],o=>by
  have e3:lM n xs h=true:=cR g h (Ext.refl h);unfold dY;rw [List.map_nil];simp only [e3,if_true,List.foldl_nil];cases o <;> rfl
 | d :: ds,o=>by
  have e3:lM n xs h=true:=cR g h (Ext.refl h);rw [a7];unfold dY;rw [if_pos e3,HQ,Rs.bind_ok];have e4:Cu (o.map fun d=>(deV d,d.nm.2)) (deV d) d.nm.2=(mxD o d).map fun d=>(deV d,d.nm.2):=by
   cases o with
   | none=>rfl
   | some b=>
    show (if b.nm.2 < d.nm.2 then _ else _)=_
    unfold mxD;simp only;split <;> rfl
  simp only [e4];rw [Cz g ds (mxD o d)];rfl
theorem B4 (x:Str):∀ ds:List De,ds.filterMap (fun d=>if d.nm.1=x then some (deV d) else none)=(ds.filter fun d=>decide (d.nm.1=x)).map deV
 | []=>rfl
 | y :: rs=>by
  rw [dg,iu]
  by_cases e:y.nm.1=x
  ·simp [e,B4 x rs]
  ·simp [e,B4 x rs]
noncomputable def oT (o:Option De):PV:=match o with | some d=>deV d | none=>.non
theorem Gy (x:Str) {ds:List De} (l1:ds.length<=1000) {l:Nat} {h:PH} (g:h[l]?=some (.lst (ds.map deV))) (Q:PV->PH->Prop) (k:∀ h',Ext h h'->Q (oT (maxD (ds.filter fun d=>decide (d.nm.1=x)))) h'):(iH [.str x,.ref l] h).W Q:=by
 refine fG ?_;unfold qJ;have hc:=dX (m:=mV 1) (n:=l) (js:=[none,some 0]) (tg:=gN 0) (tst:=bZ (aE vEq (aE vAt (aE vAt (mV 0) (mC (.int 0))) (mC (.int 0))) (mV 1))) (elt:=mV 0) (δ:=[some (.str x),some (.ref l)]) (h:=h) (h1:=h) (ys:=ds) (emb:=deV)
  (fun d=>if d.nm.1=x then some (deV d) else none) (by simp) g (by omega) (fun d _=>⟨[some (deV d),some (.str x)],by simp [cB],fun h' _=>by
   by_cases e:d.nm.1=x
   ·simp [de0,pv0,e]
   ·simp [de0,pv0,e]⟩)
 have em:=B4 x ds;rw [em] at hc;generalize ds.filter (fun d=>decide (d.nm.1=x))=fs at hc k;have g1:(h++[MO.lst (fs.map deV)])[h.length]?=some (.lst (fs.map deV)):=aK;have x1:Ext h (h++[MO.lst (fs.map deV)]):=Ext.app _ _;generalize h++[MO.lst (fs.map deV)]=hA at hc g1 x1;have e1:aP hA h.length=some (fs.map deV):=by simp [aP,g1]
 have vm:zL cT (.ref h.length) hA=.ok (oT (maxD fs)) hA:=by
  unfold zL;simp only [e1];exact Cz g1 fs none
 rw [show List.map some [PV.str x,PV.ref l]++c4 (2 - [PV.str x,PV.ref l].length) none=[some (.str x),some (.ref l)] from rfl,nR]
 unfold Gr;rw [hc,Rs.bind_ok,vm,dN];exact k _ x1
structure Row where
 d:De
 c:List Int
 r:Nat
noncomputable def rwV (z:Row):PV:=.tup [deV z.d,.ref z.r]
structure dA (hs:List Str) (z:Row):Prop where
 len:z.c.length=hs.length
 ex:∃ w c0,w < hs.length/\c0.length=hs.length/\0<=c0.getD w 0/\z.c=c0.set w (c0.getD w 0+1)/\z.d.nm=(hs.getD w "",c0.getD w 0+1)/\cD hs c0 z.d.sn
noncomputable def RAt (h:PH) (l:Nat) (R:List Row):Prop:=h[l]?=some (.lst (R.map rwV))/\∀ z∈R,h[z.r]?=some (.lst (z.c.map PV.int))
theorem RAt.ext {h h':PH} {l:Nat} {R:List Row} (t:RAt h l R) (x:Ext h h'):RAt h' l R:=⟨x _ _ t.1,fun z hz=>x _ _ (t.2 z hz)⟩
noncomputable def Inc (R:List Row):Prop:=R.Pairwise fun a b=>a.d.nm.1=b.d.nm.1->a.d.nm.2 < b.d.nm.2
theorem O2 {F:List De} (pw:F.Pairwise fun a b=>a.nm.2 < b.nm.2) {d e:De} (hd:d∈F) (he:F.getLast?=some e):d=e\/d.nm.2 < e.nm.2:=by
 obtain ⟨F',rfl⟩:=List.getLast?_eq_some_iff.mp he;rcases ba.mp hd with h | h
 ·exact .inr ((List.pairwise_append.mp pw).2.2 d h e (by simp))
 ·simp at h; exact .inl h
theorem last_eq {R:List Row} (inc:Inc R) {T:List De} (mem:∀ d,d∈T ↔ d∈R.map (·.d)) (p:De->Bool) (x:Str) (hp:∀ d,p d=true->d.nm.1=x):maxD (T.filter p)=((R.map (·.d)).filter p).getLast?:=by
 have pw:((R.map (·.d)).filter p).Pairwise fun a b=>a.nm.2 < b.nm.2:=by
  rw [List.pairwise_filter,c7];exact inc.imp fun {a b} h ha hb=>h ((hp _ ha).trans (hp _ hb).symm)
 have mem':∀ d,d∈T.filter p ↔ d∈(R.map (·.d)).filter p:=fun d=>by rw [fi,fi,mem]
 generalize (R.map (·.d)).filter p=F at pw mem';generalize T.filter p=G at mem';cases e:maxD G with
 | none=>
  have eG:=HS.mp e;subst eG;have:F=[]:=List.eq_nil_iff_forall_not_mem.mpr fun d hd=>by have:=(mem' d).mpr hd; simp at this
  rw [this]; rfl
 | some d=>
  obtain ⟨h1,h2⟩:=zS e;have hF:=(mem' d).mp h1;cases e2:F.getLast? with
  | none=>
   rw [List.getLast?_eq_none_iff.mp e2] at hF;simp at hF
  | some b=>
   rcases O2 pw hF e2 with z | z
   ·rw [z]
   ·have:=h2 b ((mem' b).mpr (List.mem_of_getLast? e2));omega
noncomputable def hB (x:Str) (d:De):Bool:=decide (d.nm.1=x)
noncomputable def hsB (x:Str) (d:De):Bool:=decide (d.nm.1=x) && acB d.ac
noncomputable def Gz (hs:List Str) (R:List Row) (x:Str) (v:PV):Prop:=match (R.filter fun z=>hB x z.d).getLast? with
 | none=>v=.tup []
 | some z=>∃ S,v=sv S/\cD hs z.c S
theorem CA {hs:List Str} (nd:hs.Nodup) (h6:hs.length<=6) {R:List Row} (inc:Inc R) (ok:∀ z∈R,dA hs z) {T:List De} (lT:T.length<=1000) (mem:∀ d,d∈T ↔ d∈R.map (·.d)) (x:Str) {l:Nat} {h:PH} (g:h[l]?=some (.lst (T.map deV))) (Q:PV->PH->Prop) (k:∀ v h',Ext h h'->Gz hs R x v->Q v h'):(oM [.str x,.ref l] h).W Q:=by
 refine fG ?_;unfold AY;rw [aM];simp;refine Gy x lT g _ fun h1 x1=>?_;have le:=last_eq inc mem (hB x) x (fun d hd=>by simpa [hB] using hd)
 have le:maxD (T.filter fun d=>decide (d.nm.1=x))=((R.map (·.d)).filter (hB x)).getLast?:=le;rw [le];have ef:((R.map (·.d)).filter (hB x)).getLast?=((R.filter fun z=>hB x z.d).getLast?).map (·.d):=by
  rw [lx,List.getLast?_map];rfl
 rw [ef];unfold Gz at k;cases e:(R.filter fun z=>hB x z.d).getLast? with
 | none=>
  rw [e] at k;refine now ?_;simp [oT];exact k _ _ x1 rfl
 | some z=>
  rw [e] at k;have hz:=(fi.mp (List.mem_of_getLast? e)).1;obtain ⟨lz,w,c0,hw,lc,h0,ec,en,sn⟩:=ok z hz;refine now ?_;have nn:∀ h,vIs (deV z.d) .non h=.ok (.bl false) h:=fun h=>by unfold deV; simp
  simp [oT,nn,de0,de1];refine Ez z.d.sn z.d.nm (dH sn.asc) (by have:=sn.len; omega) _ _ fun S h2 x2 aS lS lk=>?_;refine k _ _ (x1.trans x2) ⟨S,rfl,?_⟩;rw [ec];refine HP nd lc hw rfl h0 sn aS fun y=>?_;rw [lk y,en]
theorem sY {δ:Ev} {h h1:PH} {js:List (Option Nat)} {tg:Mg} {elt:Me} {g:PH->Bool} {mi:Mi} {xs:List PV} {Q:PV->PH->Prop} (P:Nat->PV->Prop) (e:mi δ h=.ok ⟨xs,g⟩ h1) (hg:∀ h,Ext h1 h->g h=true) (hz:xs.length<=16777216)
  (step:∀ i x,xs[i]?=some x->∃ δ1,tg x (cB js δ)=some δ1/\∀ h,Ext h1 h->∀ Q:PV->PH->Prop,(∀ v h',Ext h h'->P i v->Q v h')->(elt δ1 h).W Q)
  (k:∀ l h' (vs:List PV),Ext h1 h'->h1.length<=l->vs.length=xs.length->h'[l]?=some (.lst vs)->(∀ i v,vs[i]?=some v->P i v)->Q (.ref l) h'):(bE js mi tg dS elt δ h).W Q:=by
 unfold bE;rw [e,Rs.bind_ok];refine nW (fun i h'=>Ext h1 h'/\∃ vs:List PV,vs.length=i/\h'[h1.length]?=some (.lst vs)/\∀ i v,vs[i]?=some v->P i v) xs 0 _ ⟨Ext.app _ _,[],rfl,by simp,fun i v hv=>by simp at hv⟩ (fun i x h' _ hx hi=>?_) (fun h' hi=>?_)
 ·obtain ⟨x1,vs,lv,g1,ov⟩:=hi;have hx:xs[i]?=some x:=by simpa using hx
  have hil:=(ab.mp hx).1;obtain ⟨δ1,ht,hs⟩:=step i x hx;refine ⟨hg _ x1,δ1,ht,?_⟩;have hY:dS δ1 h'=.ok true h':=rfl;rw [hY,dN,if_pos rfl];refine hs h' x1 _ fun v h2 x2 pv=>?_;refine ⟨_,x2 _ _ g1,by omega,(x1.trans x2).setN (ai _),vs++[v],by simp [lv],dU (x2 _ _ g1),fun j w hw=>?_⟩;rcases Nat.lt_trichotomy j vs.length with z | z | z
  ·rw [dh z] at hw;exact ov j w hw
  ·rw [z,e9 (ai _),Nat.sub_self] at hw;cases hw
   rw [z,lv];exact pv
  ·rw [e9 (by omega)] at hw;have:=(ab.mp hw).1;simp at this;omega
 ·obtain ⟨x1,vs,lv,g1,ov⟩:=hi;rw [Nat.zero_add] at lv;exact ⟨hg _ x1,k _ _ vs x1 (ai _) lv g1 ov⟩
noncomputable def stV (o:Option De):Int:=match o with | some d=>O1 d | none=>0
theorem zT:∀ ds:List De,ds.filterMap (fun d=>if acB d.ac=true then some (deV d) else none)=(ds.filter fun d=>acB d.ac).map deV
 | []=>rfl
 | y :: rs=>by
  rw [dg,iu];cases e:acB y.ac <;> simp [zT rs]
theorem L7 {α:Type} {hs:List α} {vs:List PV} (f:α->PV) (lv:vs.length=hs.length) (ov:∀ (i:Nat) (v:PV),vs[i]?=some v->∃ x,hs[i]?=some x/\v=f x):vs=hs.map f:=by
 apply e8;intro i;rw [aj];cases e:vs[i]? with
 | none=>
  have:hs.length<=i:=by rw [<- lv]; exact ja.mp e
  rw [kg this]; rfl
 | some v=>
  obtain ⟨x,hx,rfl⟩:=ov i v e;rw [hx]; rfl
theorem vK {hs:List Str} (h0:hs≠[]) (h6:hs.length<=6) {T:List De} (lT:T.length<=1000) (ls:∀ d∈T,d.sn.length<=1000) {lh l:Nat} {h:PH} (gh:h[lh]?=some (.lst (hs.map PV.str))) (g:h[l]?=some (.lst (T.map deV))) (Q:PV->PH->Prop)
  (k:∀ h',Ext h h'->Q (.int (jZ (hs.map fun x=>stV (maxD ((T.filter fun d=>acB d.ac).filter fun d=>decide (d.nm.1=x)))))) h'):(kU [.ref lh,.ref l] h).W Q:=by
 refine fG ?_;unfold AX;have hc:=dX (m:=mV 1) (n:=l) (js:=[none]) (tg:=gN 0) (tst:=bZ (aE vEq (aE vAt (aE vAt (mV 0) (mC (.int 2))) (mC (.int 0))) (mC (.str "settle")))) (elt:=mV 0) (δ:=[some (.ref lh),some (.ref l),none,none]) (h:=h) (h1:=h) (ys:=T) (emb:=deV)
  (fun d=>if acB d.ac=true then some (deV d) else none) (by simp) g (by omega) (fun d _=>⟨[some (deV d)],by simp [cB],fun h' _=>by
   have e:=Vi d.ac;cases eb:acB d.ac with
   | true=>
    rw [eb] at e;have e:acS d.ac="settle" := of_decide_eq_true e;simp [de2,ac0,e]
   | false=>
    rw [eb] at e;have e:¬ acS d.ac="settle" := of_decide_eq_false e;simp [de2,ac0,e]⟩)
 rw [zT T] at hc;have lst:(T.filter fun d=>acB d.ac).length<=1000:=c9 (List.length_filter_le _ _) lT;have lss:∀ d∈T.filter fun d=>acB d.ac,d.sn.length<=1000:=fun d hd=>ls d (fi.mp hd).1;generalize (T.filter fun d=>acB d.ac)=Z at hc k lst lss;have x1:Ext h (h++[MO.lst (Z.map deV)]):=Ext.app _ _;have g1:(h++[MO.lst (Z.map deV)])[h.length]?=some (.lst (Z.map deV)):=aK;rw [aM,show List.map some [PV.ref lh,PV.ref l]++c4 (4 - [PV.ref lh,PV.ref l].length) none=[some (.ref lh),some (.ref l),none,none] from rfl]
 simp only [lQ,hc,dN,i6,i7];generalize h++[MO.lst (Z.map deV)]=hA at hc g1 x1;generalize h.length=lz at g1;clear hc;refine now ?_;rw [aM];simp only [lQ];have gh1:=x1 _ _ gh;refine sY (h1:=hA) (xs:=hs.map PV.str) (g:=lM lh (hs.map PV.str)) (fun i v=>∃ x,hs[i]?=some x/\v=oT (maxD (Z.filter fun d=>decide (d.nm.1=x)))) (dW (by simp) gh1) (cR gh1) (by rw [ae]; omega) (fun i x hx=>?_) fun l3 hC vs xC bC lv gC ov=>?_
 ·rw [aj] at hx;obtain ⟨y,hy,rfl⟩:=bf.mp hx;refine ⟨[some (.str y),some (.ref lz)],by simp [cB],fun h2 x2 Q k2=>?_⟩;simp;exact Gy y lst (x2 _ _ g1) _ fun h3 x3=>k2 _ h3 x3 ⟨y,hy,rfl⟩
 rw [ae] at lv;have ev:=L7 _ lv ov;subst ev;simp only [i6,i7];clear ov lv;refine now ?_;simp only [nR,mG,fY,AC];refine sY (h1:=hC) (xs:=hs.map fun x=>oT (maxD (Z.filter fun d=>decide (d.nm.1=x)))) (g:=lM l3 _) (fun i v=>∃ x,hs[i]?=some x/\v=.int (stV (maxD (Z.filter fun d=>decide (d.nm.1=x))))) (dW (by simp) gC) (cR gC) (by rw [ae]; omega) (fun i x hx=>?_) fun l4 hD vs xD bD lv gD ov=>?_
 ·rw [aj] at hx;obtain ⟨y,hy,rfl⟩:=bf.mp hx;refine ⟨[some (oT (maxD (Z.filter fun d=>decide (d.nm.1=y))))],by simp [cB],fun h2 x2 Q k2=>?_⟩;cases e:maxD (Z.filter fun d=>decide (d.nm.1=y)) with
  | none=>
   simp [oT];exact k2 _ h2 (Ext.refl _) ⟨y,hy,by rw [e]; rfl⟩
  | some d=>
   have hd:=(fi.mp (zS e).1).1;have nn:∀ h,vIs (deV d) .non h=.ok (.bl false) h:=fun h=>by unfold deV; simp
   simp [oT,nn];exact L6 d (lss d hd) h2 _ fun h3 x3=>k2 _ h3 x3 ⟨y,hy,by rw [e]; rfl⟩
 rw [ae] at lv;have ev:=L7 _ lv ov;subst ev;have gD':hD[l4]?=some (.lst ((hs.map fun x=>stV (maxD (Z.filter fun d=>decide (d.nm.1=x)))).map PV.int)):=by rw [bq]; exact gD
 cases hs with
 | nil=>exact absurd rfl h0
 | cons a hs=>
  have vm:=HG (a:=stV (maxD (Z.filter fun d=>decide (d.nm.1=a)))) (ns:=hs.map fun x=>stV (maxD (Z.filter fun d=>decide (d.nm.1=x)))) (n:=l4) (h:=hD) gD';simp only [nU,Rs.bind_ok,dN,vm];exact k _ ((x1.trans xC).trans xD)
theorem Ae {n d k:Nat} (h:k<=n):HT.sIx n d (some (k:Int))=k:=by
 show (if (k:Int) < 0 then ((k:Int)+(n:Int)).toNat else min (k:Int).toNat n)=k
 rw [if_neg (by omega)];omega
theorem CB {α:Type} {xs:List α} {n:Nat} (h:n<=xs.length):iW xs none (some (n:Int))=xs.take n:=by
 unfold iW;rw [Ae h]
 show (xs.drop 0).take (n - 0)=_
 simp
theorem CC {α:Type} {xs:List α} {n:Nat} (h:n<=xs.length):iW xs (some (n:Int)) none=xs.drop n:=by
 unfold iW;rw [Ae h]
 show (xs.drop n).take (xs.length - n)=_
 rw [List.take_of_length_le (by rw [k0]; omega)]
theorem L8:∀ ns:List Int,(∀ n∈ns,0<=n)->0<=ns.sum
 | [],_=>by simp
 | n :: ns,h=>by
  have h1:=h n ak;have h2:=L8 ns fun m hm=>h m (aq _ hm);rw [l0]; omega
theorem cD.nn {hs:List Str} {c:List Int} {S:Seen} (a:cD hs c S):0<=(S.map (·.2)).sum:=by
 refine L8 _ fun n hn=>?_;obtain ⟨p,hp,rfl⟩:=az.mp hn;have e:=fA (dH a.asc) hp;rw [a.lk] at e;unfold kC at e;split at e
 ·rename_i z;have:=bg e;omega
 ·cases e
theorem dA.sn {hs:List Str} {z:Row} (o:dA hs z):z.d.sn.length<=hs.length/\0<=O1 z.d:=by
 obtain ⟨w,c0,_,_,_,_,_,s⟩:=o.ex;have:=s.nn;exact ⟨s.len,by unfold O1; omega⟩
theorem L9 {h:PH} {n:Nat} {xs:List PV} (e:h[n]?=some (.lst xs)):yT [.ref n] h=.ok (.ref h.length) (h++[.lst xs]):=by simp [yT,aP,e]
theorem L' {α:Type} {xs:List α} (nd:xs.Nodup) {i j:Nat} {a:α} (h1:xs[i]?=some a) (h2:xs[j]?=some a):i=j:=by
 obtain ⟨l1,e1⟩:=ab.mp h1;obtain ⟨l2,e2⟩:=ab.mp h2;have pw:=d5.mp nd;rcases Nat.lt_trichotomy i j with h | h | h
 ·exact absurd (e1.trans e2.symm) (pw i j l1 l2 h)
 ·exact h
 ·exact absurd (e2.trans e1.symm) (pw j i l2 l1 h)
theorem B5 {δ:Ev} {h h1:PH} {js:List (Option Nat)} {tg:Mg} {elt:Me} {g:PH->Bool} {α:Type} {mi:Mi} {tst:Ev->PH->Rs Bool} {ys:List α} {emb:α->PV} {Q:PV->PH->Prop} (p:α->Bool) (f:α->PV) (e:mi δ h=.ok ⟨ys.map emb,g⟩ h1) (hg:∀ h,Ext h1 h->g h=true) (hz:ys.length<=16777216)
  (step:∀ y∈ys,∃ δ1,tg (emb y) (cB js δ)=some δ1/\(∀ h,Ext h1 h->∀ Q:Bool->PH->Prop,(∀ h',Ext h h'->Q (p y) h')->(tst δ1 h).W Q)/\∀ h,Ext h1 h->elt δ1 h=.ok (f y) h)
  (k:∀ l h',Ext h1 h'->h1.length<=l->h'[l]?=some (.lst ((ys.filter p).map f))->Q (.ref l) h'):(bE js mi tg tst elt δ h).W Q:=by
 unfold bE;rw [e,Rs.bind_ok];refine nW (fun i h'=>Ext h1 h'/\h'[h1.length]?=some (.lst (((ys.take i).filter p).map f))) (ys.map emb) 0 _ ⟨Ext.app _ _,by simp⟩ (fun i x h' _ hx hi=>?_) (fun h' hi=>?_)
 ·obtain ⟨x1,g1⟩:=hi;have hx:(ys.map emb)[i]?=some x:=by simpa using hx
  rw [aj] at hx;obtain ⟨y,hy,rfl⟩:=bf.mp hx;have hil:=(ab.mp hy).1;obtain ⟨δ1,ht,hs,he⟩:=step y (cy hy);have htk:ys.take (i+1)=ys.take i++[y]:=by rw [ig,hy]; rfl
  refine ⟨hg _ x1,δ1,ht,?_⟩;refine hs h' x1 _ fun h2 x2=>?_;cases ep:p y with
  | true=>
   rw [if_pos rfl,he h2 (x1.trans x2),dN];refine ⟨_,x2 _ _ g1,?_,(x1.trans x2).setN (ai _),?_⟩
   ·have:=List.length_filter_le p (ys.take i);rw [d9] at this;rw [ae]; omega
   ·rw [dU (x2 _ _ g1),htk,gv,cj];simp [ep]
  | false=>
   rw [if_neg (by simp)];refine ⟨x1.trans x2,?_⟩;rw [x2 _ _ g1,htk,gv];simp [ep]
 ·obtain ⟨x1,g1⟩:=hi;refine ⟨hg _ x1,k _ _ x1 (ai _) ?_⟩;rw [Nat.zero_add,ae,jw] at g1;exact g1
theorem O3 {h hX:PH} {o:MO} (x:Ext h hX):Ext h (hX.set h.length o):=fun n o' e=>by
 have hn:=(ab.mp e).1;rw [a8 (by omega)];exact x n o' e
inductive Kd where
 | settle
 | back (f l:Int)
 | other
deriving DecidableEq
noncomputable abbrev HD:=Int×Kd
noncomputable def reach (b:HD) (n:Int):Bool:=match b.2 with
 | .back f l=>decide (f<=n/\n<=l)
 | _=>false
noncomputable def hit (n:Int) (B:List HD):Option HD:=B.find? fun b=>reach b n
section
variable {α:Type} [DecidableEq α]
noncomputable def run:List (α×HD)->(α->List HD)->List (α×HD×HD)
 | [],_=>[]
 | d :: L,B=>match d.2.2,hit d.2.1 (B d.1) with
  | .settle,_=>run L fun h=>if h=d.1 then [] else B h
  | _,some b=>(d.1,d.2,b) :: run L B
  | .back _ _,none=>run L fun h=>if h=d.1 then B h++[d.2] else B h
  | .other,none=>run L B
theorem La (d:α×HD) (L:List (α×HD)) (B:α->List HD):run (d :: L) B=match d.2.2,hit d.2.1 (B d.1) with
  | .settle,_=>run L fun h=>if h=d.1 then [] else B h
  | _,some b=>(d.1,d.2,b) :: run L B
  | .back _ _,none=>run L fun h=>if h=d.1 then B h++[d.2] else B h
  | .other,none=>run L B:=rfl
end
structure Dd where
 nm:Str×Int
 seen:Seen
 kd:Kd
 act:List PV
noncomputable def dP (d:Dd):PV:=.tup [pv d.nm,sv d.seen,.tup d.act]
noncomputable def word:Kd->Str
 | .settle=>"settle"
 | .back _ _=>"back"
 | .other=>"other"
noncomputable def WfA:Kd->List PV->Prop
 | .settle,a=>a=[.str "settle"]
 | .back f l,a=>a=[.str "back",.int f,.int l]
 | .other,a=>∃ w r,a=.str w :: r/\w≠"settle" /\ w≠"back"
structure Wf (d:Dd):Prop where
 len:d.seen.length<=100
 act:WfA d.kd d.act
 pl:d.act.all (PV.pl 37)=true
noncomputable def hdD (d:Dd):HD:=(d.nm.2,d.kd)
noncomputable def tri (d:Dd):Str×HD:=(d.nm.1,hdD d)
noncomputable def tot (S:Seen):Int:=(S.map (·.2)).sum
noncomputable def kyL (d:Dd):List Key:=[.inl (1+tot d.seen),.inr d.nm.1,.inl d.nm.2]
theorem dP0 {d:Dd} {h:PH}:vIx (dP d) (.int 0) h=.ok (pv d.nm) h:=by unfold dP; simp
theorem dP1 {d:Dd} {h:PH}:vIx (dP d) (.int 1) h=.ok (sv d.seen) h:=by unfold dP; simp
theorem dP2 {d:Dd} {h:PH}:vIx (dP d) (.int 2) h=.ok (.tup d.act) h:=by unfold dP; simp
theorem Pq {p:Str×Int}:(PV.tup [.str p.1,.int p.2]).ky 6=true:=rfl
theorem qO (d:Dd) (hS:d.seen.length<=100) (h:PH) (Q:PV->PH->Prop) (k:∀ h',Ext h h'->Q (.int (1+tot d.seen)) h'):(gX [dP d] h).W Q:=by
 refine fG ?_;have hc:=yZ (js:=[none]) (tg:=gN 0) (tst:=dS) (elt:=aE vAt (mV 0) (mC (.int 1))) (m:=aE vAt (mV 0) (mC (.int 1))) (δ:=[some (dP d)]) (h:=h) (h1:=h) (ys:=d.seen) (emb:=pv)
  (fun q=>some (.int q.2)) (by simp [dP1,Gw]) (by omega) (fun q hq=>⟨_,rfl,fun h3 _=>⟨rfl,by simp [cB,pv1]⟩⟩)
 have es:d.seen.filterMap (fun q=>some (PV.int q.2))=(d.seen.map (·.2)).map PV.int:=by rw [filterMap_some,bq]; rfl
 rw [es] at hc;have gs:(h++[MO.lst ((d.seen.map (·.2)).map PV.int)])[h.length]?=some (.lst ((d.seen.map (·.2)).map PV.int)):=aK;change (oJ [some (dP d)] h).W _;unfold oJ;rw [nR,Gd,SZ,Rs.bind_ok,mG,fY,hc];simp only [Rs.bind_ok,nU,Cb gs,yV,dN];exact k _ (Ext.app _ _)
theorem O4 (d:Dd) (hS:d.seen.length<=100) (h:PH) (Q:PV->PH->Prop) (k:∀ h',Ext h h'->Q (tP (kyL d)) h'):(AZ [dP d] h).W Q:=by
 refine fG ?_;unfold Ex;rw [aM];simp [dP0];refine ⟨[some (dP d),some (.str d.nm.1),some (.int d.nm.2)],by simp [pv],?_⟩;refine now ?_;simp;refine qO d hS _ _ fun h' hx=>?_
 try simp
 exact k h' hx
noncomputable def ent (d:Dd):PV×PV:=(pv d.nm,dP d)
theorem CD (p:Str×Int):∀ es:List Dd,(aV (es.map ent) (pv p)).isSome=true ↔ p∈es.map (·.nm)
 | []=>by simp [aV]
 | d :: es=>by
  rw [a7,a7,bc]
  show (aV ((pv d.nm,dP d) :: es.map ent) (pv p)).isSome=true ↔ _
  unfold aV
  by_cases e:d.nm=p
  ·rw [if_pos (by rw [e])]; simp [e]
  ·rw [if_neg (fun z=>e (B2 z)),CD p es];constructor
   ·exact .inr
   ·rintro (z | z)
    ·exact (e z.symm).elim
    ·exact z
theorem O5 {es:List Dd} {d:Dd} (hu:∀ x∈es,x.nm=d.nm->x=d):dO (es.map ent) (pv d.nm) (dP d)=(if d.nm∈es.map (·.nm) then es else es++[d]).map ent:=by
 unfold dO;have hl:=CD d.nm es
 by_cases e:d.nm∈es.map (·.nm)
 ·rw [if_pos e,if_pos (hl.mpr e),bq];apply dw;intro x hx
  show (if (ent x).1=pv d.nm then ((ent x).1,dP d) else ent x)=ent x
  by_cases z:(ent x).1=pv d.nm
  ·rw [if_pos z];have:=hu x hx (B2 z);subst this;rfl
  ·rw [if_neg z]
 ·rw [if_neg e,if_neg (fun z=>e (hl.mp z)),cj];rfl
theorem O6 (xs:List Dd):lN (xs.map kyL)=true:=by
 cases xs with
 | nil=>rfl
 | cons a r=>
  rw [a7];unfold lN;rw [cm];refine ⟨rfl,cg.mpr fun z hz=>?_⟩;obtain ⟨q,_,rfl⟩:=az.mp hz;rfl
theorem CF {β:Type} (f:Dd->β) (hf:∀ a b,f a=f b->a.nm=b.nm):∀ {xs:List Dd},(xs.map (·.nm)).Nodup->(xs.map f).Nodup:=fun {xs} h=>by
 unfold List.Nodup at*;rw [c7] at*;exact h.imp fun hne e=>hne (hf _ _ e)
theorem Lb (a b:Dd) (e:kyL a=kyL b):a.nm=b.nm:=by
 unfold kyL at e;simp at e;exact Prod.ext e.2.1 e.2.2
theorem kE {h hX:PH} {o:MO} {n:Nat} (x:Ext h hX) (hn:h.length<=n):Ext h (hX.set n o):=fun m o' e=>by
 have:=(ab.mp e).1;rw [a8 (by omega)];exact x m o' e
noncomputable abbrev mS (os:List Dd):Prop:=os.Pairwise (fun a b=>bR (kyL b) (kyL a)=false)
theorem B6 (U ds:List Dd) (hU:∀ d∈ds,d∈U) (hlU:U.length<=63) (hw:∀ d∈ds,Wf d) (hl:ds.length<=1000) (hu:∀ d∈ds,∀ e∈ds,d.nm=e.nm->d=e) (n:Nat) (h:PH) (g:h[n]?=some (.lst (ds.map dP))) (Q:PV->PH->Prop)
  (k:∀ os l h',Ext h h'->h.length<=l->h'[l]?=some (.lst (os.map dP))->(os.map (·.nm)).Nodup->(∀ d,d∈os ↔ d∈ds)->mS os->Q (.ref l) h'):(cH [.ref n] h).W Q:=by
 refine fG ?_;unfold mN;rw [aM];simp;have x0:Ext h (h++[MO.dK []]):=Ext.app _ _;have g0:cM (h++[MO.dK []]) h.length=some (([]:List Dd).map ent):=Gm aK;generalize h++[MO.dK []]=hA at x0 g0;refine now ?_;rw [aM];refine AE (n:=n) (xs:=ds.map dP) (h1:=hA) (fun q δ h'=>∃ es:List Dd,Ext h h'/\cM h' h.length=some (es.map ent)/\(es.map (·.nm)).Nodup/\(∀ d,d∈es ↔ d∈ds.take q)/\es.length<=q/\∃ x2,δ=[some (.ref n),some (.ref h.length),x2]) (by simp) (x0 _ _ g) ⟨[],x0,g0,by simp,by simp,by simp,_,rfl⟩ ?_ ?_ ?_
 ·rintro q δ h' hq ⟨es,x,_⟩;exact x _ _ g
 ·rintro q y δ h' hy ⟨es,x,t,nd,mem,le,x2,rfl⟩;rw [aj] at hy;obtain ⟨d,hd,rfl⟩:=bf.mp hy;have hq':q < ds.length:=(ab.mp hd).1;have htk:ds.take (q+1)=ds.take q++[d]:=by rw [ig,hd]; rfl
  have hin:d∈ds:=cy hd;have hes:∀ e∈es,e∈ds:=fun e he=>List.mem_of_mem_take ((mem e).mp he);refine ⟨_,rfl,?_⟩;have hp:sN (.ref h.length) (pv d.nm) (dP d) h'=some (h'.set h.length (.dD (dO (es.map ent) (pv d.nm) (dP d)))):=KG t Pq (by rw [ae]; omega);rw [O5 fun e he z=>hu e (hes e he) d hin z] at hp;have hh:∃ o,h'[h.length]?=some o:=let ⟨o,g,_⟩:=gE t; ⟨o,g⟩;obtain ⟨o,ho⟩:=hh;unfold oO;simp [dP0];refine ⟨_,hp,O3 x,_,Gn (dU ho),?_,?_,?_⟩
  ·split
   ·exact nd
   ·rename_i z;rw [cj,ie];refine ⟨nd,by simp,fun a ha b hb e=>?_⟩;rw [List.map_singleton,bj] at hb;subst hb e;exact z (by simpa using ha)
  ·intro e;rw [htk];split
   ·rename_i z;rw [mem e,ba,bj];constructor
    ·exact .inl
    ·rintro (z' | rfl)
     ·exact z'
     ·obtain ⟨e',he',en⟩:=az.mp (show e.nm∈es.map (·.nm) by simpa using z)
      have:=hu e' (hes e' he') e hin en;subst this;exact (mem e').mp he'
   ·rw [ba,ba,mem e]
  ·split
   ·omega
   ·simp; omega
 ·rintro δ h' ⟨es,x,t,nd,mem,le,x2,rfl⟩;have hle:es.length<=63:=by
   have h1:(es.map (·.nm)).length<=(U.map (·.nm)).length:=gm nd fun p hp=>by
    obtain ⟨d,hd,rfl⟩:=az.mp hp;exact az.mpr ⟨d,hU d (List.mem_of_mem_take ((mem d).mp hd)),rfl⟩
   simp at h1;omega
  obtain ⟨o,ho,hdc,_⟩:=gE t;refine now ?_;simp [hdc,NQ t];have x1:Ext h' (h'++[MO.vw 1 h.length]):=Ext.app _ _;have ei:iA (.ref h'.length) (h'++[MO.vw 1 h.length])=some (es.map dP):=by
   rw [Cn aK (gF x1 t),bq];rfl
  generalize h'++[MO.vw 1 h.length]=h2 at x1 ei;have mem':∀ d,d∈es ↔ d∈ds:=fun d=>by rw [mem d,ae,jw]
  refine Gp (key:=kyL) (emb:=dP) (S:=shape [.inl 0,.inr "",.inl 0]) ei (by omega) (O6 es) (fun _ _=>rfl) (CF kyL Lb nd) (fun d hd h Q kk=>O4 d (hw d ((mem' d).mp hd)).len h Q kk) fun os h3 x3 hp ho=>?_;refine k os h3.length _ ((x.trans x1).trans (x3.trans (Ext.app _ _))) (c9 x.len (c9 x1.len x3.len)) aK ((hp.map _).nodup_iff.mpr nd) (fun d=>(hp.mem_iff).trans (mem' d)) ho
theorem kF (ds:List Dd) (hw:∀ d∈ds,Wf d) (hl:ds.length<=63) (hu:∀ d∈ds,∀ e∈ds,d.nm=e.nm->d=e) (n:Nat) (h:PH) (g:h[n]?=some (.lst (ds.map dP))) (Q:PV->PH->Prop)
  (k:∀ os l h',Ext h h'->h'[l]?=some (.lst (os.map dP))->(os.map (·.nm)).Nodup->(∀ d,d∈os ↔ d∈ds)->mS os->Q (.ref l) h'):(cH [.ref n] h).W Q:=by
 exact B6 ds ds (fun _ h=>h) hl hw (by omega) hu n h g Q fun os l h' a _ b c d e=>k os l h' a b c d e
noncomputable def lk {β:Type}:List (Str×β)->Str->Option β
 | [],_=>none
 | p :: r,w=>if p.1=w then some p.2 else lk r w
noncomputable def dpt {β:Type} (R:List (Str×β)) (w:Str) (m:β):List (Str×β):=if (lk R w).isSome then R.map (fun p=>if p.1=w then (p.1,m) else p) else R++[(w,m)]
noncomputable def em {β:Type} (f:β->PV) (R:List (Str×β)):List (Key×PV):=R.map fun p=>(.inr p.1,f p.2)
theorem GA {β:Type} (f:β->PV) (w:Str):∀ R:List (Str×β),aV (em f R) (.inr w)=(lk R w).map f
 | []=>rfl
 | p :: r=>by
  show aV ((k7 p.1,f p.2) :: em f r) (.inr w)=_
  unfold aV lk
  by_cases e:p.1=w
  ·rw [if_pos e,if_pos (by rw [e])]; rfl
  ·rw [if_neg e,if_neg (by simpa using e)]; exact GA f w r
theorem Pr {β:Type} (f:β->PV) (R:List (Str×β)) (w:Str) (m:β):dO (em f R) (.inr w) (f m)=em f (dpt R w m):=by
 unfold dO dpt;rw [GA];cases lk R w with
 | none=>simp [em]
 | some z=>
  simp only [Option.map_some,iy,if_true];unfold em;rw [bq,bq];apply dw;intro p _
  by_cases e:p.1=w
  ·simp [e]
  ·simp [e]
theorem Lc {β:Type} (w:Str) (m:β) (x:Str):∀ R:List (Str×β),lk (R.map fun p=>if p.1=w then (p.1,m) else p) x=if x=w then (lk R x).map (fun _=>m) else lk R x
 | []=>by simp [lk]
 | p :: r=>by
  rw [a7];have ih:=Lc w m x r
  by_cases e:p.1=w
  ·rw [if_pos e];unfold lk;dsimp only
   by_cases z:p.1=x
   ·rw [if_pos z,if_pos z,if_pos (z.symm.trans e)]; rfl
   ·rw [if_neg z,if_neg z,ih]
  ·rw [if_neg e];unfold lk
   by_cases z:p.1=x
   ·rw [if_pos z,if_pos z,if_neg (fun q=>e (z.trans q))]
   ·rw [if_neg z,if_neg z,ih]
theorem Ld {β:Type} (w:Str) (m:β) (x:Str):∀ R:List (Str×β),lk (R++[(w,m)]) x=match lk R x with | some y=>some y | none=>if x=w then some m else none
 | []=>by
  show (if w=x then some m else none)=if x=w then some m else none
  by_cases e:w=x
  ·rw [if_pos e,if_pos e.symm]
  ·rw [if_neg e,if_neg fun z=>e z.symm]
 | p :: r=>by
  rw [List.cons_append];unfold lk
  by_cases z:p.1=x
  ·rw [if_pos z,if_pos z]
  ·rw [if_neg z,if_neg z,Ld w m x r]
theorem EA {β:Type} (R:List (Str×β)) (w:Str) (m:β) (x:Str):lk (dpt R w m) x=if x=w then some m else lk R x:=by
 unfold dpt;cases e:lk R w with
 | none=>
  rw [if_neg (by simp),Ld]
  by_cases z:x=w
  ·subst z; rw [e,if_pos rfl]
  ·rw [if_neg z];cases lk R x <;> simp [z]
 | some y=>
  rw [if_pos (by simp),Lc]
  by_cases z:x=w
  ·subst z; rw [if_pos rfl,if_pos rfl,e]; rfl
  ·rw [if_neg z,if_neg z]
theorem O7 {β:Type} {R:List (Str×β)} {w:Str} {m:β}:(dpt R w m).length<=R.length+1:=by
 unfold dpt;split <;> simp
noncomputable def nmL (d:Dd):List Key:=[.inr d.nm.1,.inl d.nm.2]
theorem O8 (xs:List Dd):lN (xs.map nmL)=true:=by
 cases xs with
 | nil=>rfl
 | cons a r=>
  rw [a7];unfold lN;rw [cm];refine ⟨rfl,cg.mpr fun z hz=>?_⟩;obtain ⟨q,_,rfl⟩:=az.mp hz;rfl
theorem R5 (a b:Dd) (e:nmL a=nmL b):a.nm=b.nm:=by
 unfold nmL at e;simp at e;exact Prod.ext e.1 e.2
theorem O9 (d:Dd) (h:PH) (Q:PV->PH->Prop) (k:Q (pv d.nm) h):(iJ [dP d] h).W Q:=by
 refine fG ?_;simp [qL,dP0];exact k
noncomputable abbrev EB (n:Int) (bs:List Dd):Option Dd:=bs.find? fun b=>reach (hdD b) n
theorem Le (n:Int) (bs:List Dd) (hb:∀ b∈bs,Wf b/\∃ f l,b.kd=.back f l) (hz:bs.length<=100) (m:Nat) (h:PH) (g:h[m]?=some (.lst (bs.map dP))) (Q:PV->PH->Prop) (k:Q (match EB n bs with | some b=>pv b.nm | none=>.non) h):(jA [.int n,.ref m] h).W Q:=by
 refine fG ?_;unfold mO;rw [aM];refine AE (n:=m) (xs:=bs.map dP) (h1:=h) (fun q δ h'=>h'=h/\(∀ b∈bs.take q,reach (hdD b) n=false)/\∃ x2 x3 x4 x5,δ=[some (.int n),some (.ref m),x2,x3,x4,x5]) (by simp) g ⟨rfl,by simp,_,_,_,_,rfl⟩ ?_ ?_ ?_
 ·rintro q δ h' hq ⟨rfl,_⟩;exact g
 ·rintro q y δ h' hy ⟨rfl,nr,x2,x3,x4,x5,rfl⟩;rw [aj] at hy;obtain ⟨d,hd,rfl⟩:=bf.mp hy;have hq':q < bs.length:=(ab.mp hd).1;obtain ⟨wf,f,l,ek⟩:=hb d (cy hd);have ea:d.act=[.str "back",.int f,.int l]:=by
   have:=wf.act;rw [ek] at this;exact this
  have er:reach (hdD d) n=decide (f<=n/\n<=l):=by
   unfold reach
   show (match d.kd with | .back f l=>decide (f<=n/\n<=l) | _=>false)=_
   rw [ek]
  have split1:bs=bs.take q++d :: bs.drop (q+1):=by
   have e1:bs.drop q=d :: bs.drop (q+1):=drop_cons hd;rw [<- e1,List.take_append_drop]
  refine ⟨_,rfl,?_⟩;unfold oP;rw [aM];simp [dP2,ea];refine now ?_;simp [dP0];have fin:f<=n->n<=l->Q (pv d.nm) h':=fun h1 h2=>by
   have:EB n bs=some d:=by
    unfold EB;rw [split1,List.find?_append,List.find?_eq_none.mpr (fun b hb=>by rw [nr b hb]; decide),List.find?_cons_of_pos (by rw [show reach (hdD d) n=decide (f<=n/\n<=l) from er]; exact decide_eq_true ⟨h1,h2⟩)]
    rfl
   rw [this] at k;exact k
  have nxt:¬ (f<=n/\n<=l)->∀ b∈bs.take (q+1),reach (hdD b) n=false:=fun z b hb=>by
   rw [ig,hd,ba] at hb;rcases hb with hb | hb
   ·exact nr b hb
   ·rw [show (some d).toList=[d] from rfl,bj] at hb
    subst hb;rw [er];exact decide_eq_false z
  split
  ·rename_i z1;split
   ·rename_i z2; exact fin z1 z2
   ·rename_i z2; exact nxt fun z=>z2 z.2
  ·rename_i z1; exact nxt fun z=>z1 z.1
 ·rintro δ h' ⟨rfl,nr,x2,x3,x4,x5,rfl⟩;rw [ae,jw] at nr;have:EB n bs=none:=List.find?_eq_none.mpr fun b hb=>by rw [nr b hb]; decide
  rw [this] at k;refine now ?_;simp;exact k
noncomputable def tkE (x:Str×HD×HD):PV×PV:=(pv (x.1,x.2.1.1),pv (x.1,x.2.2.1))
theorem B7 (p:Str×Int):∀ T:List (Str×HD×HD),(aV (T.map tkE) (pv p)).isSome=true ↔ ∃ x∈T,x.1=p.1/\x.2.1.1=p.2
 | []=>by simp [aV]
 | y :: T=>by
  rw [a7]
  show (aV ((pv (y.1,y.2.1.1),pv (y.1,y.2.2.1)) :: T.map tkE) (pv p)).isSome=true ↔ _
  unfold aV
  by_cases e:(y.1,y.2.1.1)=p
  ·rw [if_pos (by rw [e])];constructor
   ·intro _; exact ⟨y,ak,by rw [<- e],by rw [<- e]⟩
   ·intro _; rfl
  ·rw [if_neg (fun z=>e (B2 z)),B7 p T];constructor
   ·rintro ⟨x,hx,q⟩; exact ⟨x,aq _ hx,q⟩
   ·rintro ⟨x,hx,q1,q2⟩;rcases bc.mp hx with rfl | hx
    ·exact (e (Prod.ext q1 q2)).elim
    ·exact ⟨x,hx,q1,q2⟩
theorem O' (n:Int) (bs:List Dd):hit n (bs.map hdD)=(EB n bs).map hdD:=by
 unfold hit EB;rw [List.find?_map];rfl
theorem Oa {d:Dd} (w:Wf d):∃ x r,d.act=.str x :: r/\(x="settle" ↔ d.kd=.settle)/\(x="back" ↔ ∃ f l,d.kd=.back f l):=by
 have h:=w.act;cases e:d.kd with
 | settle=>rw [e] at h; exact ⟨"settle",[],h,by simp,by simp; decide⟩
 | back f l=>rw [e] at h; exact ⟨"back",_,h,by simp; decide,by simp⟩
 | other=>
  rw [e] at h;obtain ⟨x,r,e1,n1,n2⟩:=h;exact ⟨x,r,e1,by simp [n1],by simp [n2]⟩
noncomputable abbrev zU (L:List Dd):Prop:=L.Pairwise (fun a b=>bR (nmL a) (nmL b)=false)
structure BOk (sl lb:Nat) (q:Nat) (h':PH) (R:List (Str×Nat)) (Bd:Str->List Dd):Prop where
 at':∀ w m,lk R w=some m->h'[m]?=some (.lst ((Bd w).map dP))/\lb < m/\m≠sl
 no:∀ w,lk R w=none->Bd w=[]
 inj:∀ w w' m,lk R w=some m->lk R w'=some m->w=w'
 back:∀ w,∀ b∈Bd w,b.nm.1=w/\Wf b/\∃ f l,b.kd=.back f l
 len:∀ w,(Bd w).length<=q
 lenR:R.length<=q
theorem BOk.get {sl lb q:Nat} {h' h2:PH} {R:List (Str×Nat)} {Bd:Str->List Dd} (b:BOk sl lb q h' R Bd) (e:Ext h' h2):BOk sl lb q h2 R Bd:=
 ⟨fun w m z=>let ⟨a,c,d⟩:=b.at' w m z; ⟨e _ _ a,c,d⟩,b.no,b.inj,b.back,b.len,b.lenR⟩
theorem BOk.up {sl lb q:Nat} {h':PH} {R:List (Str×Nat)} {Bd:Str->List Dd} (b:BOk sl lb q h' R Bd):BOk sl lb (q+1) h' R Bd:=
 ⟨b.at',b.no,b.inj,b.back,fun w=>ji (b.len w),ji b.lenR⟩
theorem BOk.aside {sl lb q n:Nat} {h':PH} {o:MO} {R:List (Str×Nat)} {Bd:Str->List Dd} (b:BOk sl lb q h' R Bd) (hn:n<=lb):BOk sl lb q (h'.set n o) R Bd:=
 ⟨fun w m z=>let ⟨a,c,d⟩:=b.at' w m z; ⟨by rw [a8 (by omega)]; exact a,c,d⟩,b.no,b.inj,b.back,b.len,b.lenR⟩
theorem BOk.skip {sl lb q n:Nat} {h':PH} {o:MO} {R:List (Str×Nat)} {Bd:Str->List Dd} (b:BOk sl lb q h' R Bd) (hn:∀ x,lk R x≠some n):BOk sl lb q (h'.set n o) R Bd:=
 ⟨fun w m z=>let ⟨a,c,d⟩:=b.at' w m z; ⟨by rw [a8 (fun e:n=m=>hn w (e ▸ z))]; exact a,c,d⟩,b.no,b.inj,b.back,b.len,b.lenR⟩
theorem BOk.put {sl lb q m:Nat} {h':PH} {R:List (Str×Nat)} {Bd:Str->List Dd} {w:Str} {bs:List Dd} (b:BOk sl lb q h' R Bd) (hm:h'[m]?=some (.lst (bs.map dP))) (h1:lb < m) (h2:m≠sl) (hf:∀ x,lk R x≠some m)
  (hb:∀ b∈bs,b.nm.1=w/\Wf b/\∃ f l,b.kd=.back f l) (hl:bs.length<=q+1):BOk sl lb (q+1) h' (dpt R w m) (fun x=>if x=w then bs else Bd x) where
 at':=fun x m' z=>by
  rw [EA] at z
  by_cases e:x=w
  ·rw [if_pos e] at z ⊢;cases z
   exact ⟨hm,h1,h2⟩
  ·rw [if_neg e] at z ⊢;exact b.at' x m' z
 no:=fun x z=>by
  rw [EA] at z
  by_cases e:x=w
  ·rw [if_pos e] at z; cases z
  ·rw [if_neg e] at z ⊢; exact b.no x z
 inj:=fun x y m' z1 z2=>by
  rw [EA] at z1 z2
  by_cases e1:x=w <;> by_cases e2:y=w
  ·rw [e1,e2]
  ·rw [if_pos e1] at z1; rw [if_neg e2] at z2; cases z1; exact (hf y z2).elim
  ·rw [if_neg e1] at z1; rw [if_pos e2] at z2; cases z2; exact (hf x z1).elim
  ·rw [if_neg e1] at z1; rw [if_neg e2] at z2; exact b.inj x y m' z1 z2
 back:=fun x y hy=>by
  by_cases e:x=w
  ·simp only [if_pos e] at hy; rw [e]; exact hb y hy
  ·simp only [if_neg e] at hy; exact b.back x y hy
 len:=fun x=>by
  by_cases e:x=w
  ·simp only [if_pos e]; exact hl
  ·simp only [if_neg e]; exact ji (b.len x)
 lenR:=c9 O7 (Nat.succ_le_succ b.lenR)
theorem BOk.grow {sl lb q m:Nat} {h':PH} {R:List (Str×Nat)} {Bd:Str->List Dd} {d:Dd} (b:BOk sl lb q h' R Bd) (hm:lk R d.nm.1=some m) (hw:Wf d) (hk:∃ f l,d.kd=.back f l):
  BOk sl lb (q+1) (h'.set m (.lst ((Bd d.nm.1++[d]).map dP))) R (fun x=>if x=d.nm.1 then Bd d.nm.1++[d] else Bd x) where
 at':=fun x m' z=>by
  obtain ⟨a,c,e⟩:=b.at' x m' z
  by_cases ew:x=d.nm.1
  ·subst ew;rw [hm] at z; cases z;rw [if_pos rfl];exact ⟨dU a,c,e⟩
  ·rw [if_neg ew,a8 (fun zz:m=m'=>ew (b.inj _ _ m' z (zz ▸ hm)))];exact ⟨a,c,e⟩
 no:=fun x z=>by
  by_cases e:x=d.nm.1
  ·rw [e,hm] at z; cases z
  ·rw [if_neg e]; exact b.no x z
 inj:=b.inj
 back:=fun x y hy=>by
  by_cases e:x=d.nm.1
  ·simp only [if_pos e] at hy;rcases ba.mp hy with hy | hy
   ·rw [e]; exact b.back _ y hy
   ·rw [bj.mp hy]; exact ⟨e.symm,hw,hk⟩
  ·simp only [if_neg e] at hy; exact b.back x y hy
 len:=fun x=>by
  by_cases e:x=d.nm.1
  ·simp only [if_pos e]; rw [c8]; exact Nat.succ_le_succ (b.len _)
  ·simp only [if_neg e]; exact ji (b.len x)
 lenR:=ji b.lenR
noncomputable def TI (h:PH) (n sl:Nat) (L:List Dd) (q:Nat) (δ:Ev) (h':PH):Prop:=∃ T R Bd,Ext h h'/\h'[sl]?=some (.lst (L.map dP))/\cM h' h.length=some (T.map tkE)/\h'[h.length+1]?=some (.dK (em PV.ref R))/\BOk sl (h.length+1) q h' R Bd/\T.length<=q/\(∀ x∈T,(x.1,x.2.1.1)∈(L.take q).map (·.nm))/\
   run (L.map tri) (fun _=>[])=T++run ((L.drop q).map tri) (fun w=>(Bd w).map hdD)/\∃ x3 x4 x5 x6 x7,δ=[some (.ref n),some (.ref h.length),some (.ref (h.length+1)),x3,x4,x5,x6,x7]
theorem HU (os:List Dd) (hw:∀ d∈os,Wf d) (hl:os.length<=63) (nd:(os.map (·.nm)).Nodup) (n:Nat) (h:PH) (g:h[n]?=some (.lst (os.map dP))) (Q:PV->PH->Prop)
  (k:∀ L l h',Ext h h'->L.Perm os->zU L->cM h' l=some ((run (L.map tri) fun _=>[]).map tkE)->Q (.ref l) h'):(oQ [.ref n] h).W Q:=by
 refine fG ?_;unfold vH;rw [aM];simp;refine now ?_;rw [aM];simp;have x0:Ext h (h++[MO.dK [],MO.dK []]):=Ext.app _ _;have gt:cM (h++[MO.dK [],MO.dK []]) h.length=some (([]:List (Str×HD×HD)).map tkE):=Gm (by simp);have gb:(h++[MO.dK [],MO.dK []])[h.length+1]?=some (.dK (em PV.ref [])):=by simp [em]
 generalize h++[MO.dK [],MO.dK []]=hA at x0 gt gb;refine now ?_;rw [aM];have gA:=x0 _ _ g
 -- the sort comes first
 have srt:(jX iJ true (.ref n) hA).W fun p h2=>∃ L h3,p=.ref h3.length/\h2=h3++[.lst (L.map dP)]/\Ext hA h3/\L.Perm os/\zU L:=
  Gp (key:=nmL) (emb:=dP) (S:=shape [.inr "",.inl 0]) (Er gA) (by omega) (O8 os) (fun _ _=>rfl) (CF nmL R5 nd) (fun d hd h Q kk=>O9 d h Q (kk h (Ext.refl h))) fun L h3 x3 hp ho=>⟨L,h3,rfl,rfl,x3,hp,ho⟩
 obtain ⟨p,h2,e2,L,h3,rfl,rfl,x3,hp,hf⟩:=uG srt;have hlA:h.length+1 < hA.length:=(ab.mp gb).1;have hl3:hA.length<=h3.length:=x3.len;have x1:Ext h (h3++[.lst (L.map dP)]):=x0.trans (x3.trans (Ext.app _ _));have gt1:=gF (x3.trans (Ext.app h3 [.lst (L.map dP)])) gt;have gb1:=(x3.trans (Ext.app h3 [.lst (L.map dP)])) _ _ gb;have gs:(h3++[.lst (L.map dP)])[h3.length]?=some (.lst (L.map dP)):=aK;have hsl:h.length+1 < h3.length:=by omega
 generalize h3.length=sl at e2 gs hsl;generalize h3++[.lst (L.map dP)]=hB at e2 x1 gt1 gb1 gs;have hwL:∀ d∈L,Wf d:=fun d hd=>hw d (hp.mem_iff.mp hd);have ndL:(L.map (·.nm)).Nodup:=(hp.map _).nodup_iff.mpr nd;have hlL:L.length<=63:=by rw [hp.length_eq]; exact hl
 refine AE (n:=sl) (xs:=L.map dP) (h1:=hB) (TI h n sl L) ?_ gs ?_ ?_ ?_ ?_
 ·simp [e2]
 ·exact ⟨[],[],fun _=>[],x1,gs,gt1,gb1,⟨fun w m z=>(by cases z),fun _ _=>rfl,fun w w' m z=>(by cases z),fun w b hb=>(by cases hb),fun _=>b8 _,b8 _⟩,b8 _,fun x hx=>(by cases hx),by simp,_,_,_,_,_,rfl⟩
 ·rintro q δ h' hq ⟨T,R,Bd,x,g1,_⟩;exact g1
 ·rintro q y δ h' hy ⟨T,R,Bd,x,g1,g2,g3,b,lT,nT,hr,x3,x4,x5,x6,x7,rfl⟩;rw [aj] at hy;obtain ⟨d,hdq,rfl⟩:=bf.mp hy;have hq':q < L.length:=(ab.mp hdq).1;have hdr:L.drop q=d :: L.drop (q+1):=drop_cons hdq;have htk:L.take (q+1)=L.take q++[d]:=by rw [ig,hdq]; rfl
  have wf:=hwL d (cy hdq);obtain ⟨wd,r,ea,es,eb⟩:=Oa wf;rw [hdr,a7,La] at hr;have hnew:d.nm∉(L.take q).map (·.nm):=fun z=>by
   have e1:L.map (·.nm)=(L.take q).map (·.nm)++(d :: L.drop (q+1)).map (·.nm):=by rw [<- cj,<- hdr,List.take_append_drop]
   rw [e1,ie] at ndL;exact ndL.2.2 _ z _ (by simp) rfl
  have nT1:∀ x∈T,(x.1,x.2.1.1)∈(L.take (q+1)).map (·.nm):=fun x hx=>by
   rw [htk,cj];exact fc _ (nT x hx)
  refine ⟨_,rfl,?_⟩;unfold vG;rw [aM];simp [dP0];refine ⟨[some (.ref n),some (.ref h.length),some (.ref (h.length+1)),some (dP d),some (.str d.nm.1),some (.int d.nm.2),x6,x7],by simp [pv],?_⟩;refine now ?_;rw [aM];simp [dP2,ea];refine now ?_;rw [aM];have hlen':h.length+1 < h'.length:=(ab.mp g3).1;have hsl':sl < h'.length:=(ab.mp g1).1
  by_cases c1:wd="settle"
  ·have ek:=es.mp c1;simp [c1,aM];have y1:Ext h' (h'++[MO.lst []]):=Ext.app _ _;have y2:(h'++[MO.lst []])[h'.length]?=some (.lst (([]:List Dd).map dP)):=aK;generalize h'++[MO.lst []]=h2 at y1 y2;have g3':=y1 _ _ g3;have hput:sN (.ref (h.length+1)) (.str d.nm.1) (.ref h'.length) h2=some (h2.set (h.length+1) (.dK (em PV.ref (dpt R d.nm.1 h'.length)))):=by
    rw [Gk g3' (by unfold em; rw [ae]; have:=b.lenR; omega),Pr]
   have b1:=((b.get y1).put (w:=d.nm.1) (bs:=[]) y2 hlen' (by omega) (fun x z=>by
    have:=(ab.mp (b.at' x _ z).1).1;omega) (fun b hb=>by cases hb) (b8 _)).aside (n:=h.length+1) (o:=.dK (em PV.ref (dpt R d.nm.1 h'.length))) (ai _)
   have x2:Ext h (h2.set (h.length+1) (.dK (em PV.ref (dpt R d.nm.1 h'.length)))):=kE (x.trans y1) (by omega);have gsl:(h2.set (h.length+1) (.dK (em PV.ref (dpt R d.nm.1 h'.length))))[sl]?=some (.lst (L.map dP)):=eL (y1 _ _ g1) (by omega);obtain ⟨o,ho,_,hh⟩:=gE (gF y1 g2);have gtt:=hh _ (eL (n:=h.length+1) (m:=h.length) (o':=.dK (em PV.ref (dpt R d.nm.1 h'.length))) ho (by omega));refine ⟨_,hput,now ?_⟩;simp;refine ⟨T,_,_,x2,gsl,gtt,dU g3',b1,by omega,nT1,?_,_,_,_,_,_,rfl⟩;rw [hr,show (tri d).2.2=.settle from ek]
   simp only
   congr 2
   funext w
   show (if w=d.nm.1 then [] else (Bd w).map hdD)=_
   by_cases e:w=d.nm.1
   ·rw [if_pos e,if_pos e]; rfl
   ·rw [if_neg e,if_neg e]
  ·have ek:d.kd≠.settle:=fun z=>c1 (es.mpr z);simp [c1];refine now ?_;rw [aM]
   -- what the hand has so far
   have y1:Ext h' (h'++[MO.lst []]):=Ext.app _ _;have y2:(h'++[MO.lst []])[h'.length]?=some (.lst (([]:List Dd).map dP)):=aK;have hdc:eD (.ref (h.length+1)) h'=true:=oC g3;have hget:=Gj (x:=d.nm.1) (z:=.ref h'.length) (y1 _ _ g3);simp [hdc];generalize h'++[MO.lst []]=h2 at y1 y2 hget;rw [GA] at hget;have b1:=b.get y1;have hmm:∃ m,(((lk R d.nm.1).map PV.ref).getD (.ref h'.length))=.ref m/\h2[m]?=some (.lst ((Bd d.nm.1).map dP)):=by
    cases e:lk R d.nm.1 with
    | some m=>exact ⟨m,rfl,(b1.at' _ _ e).1⟩
    | none=>exact ⟨h'.length,rfl,by rw [b.no _ e]; exact y2⟩
   obtain ⟨m,em1,em2⟩:=hmm;rw [em1] at hget;simp [hget];refine Le d.nm.2 (Bd d.nm.1) (fun z hz=>(b.back _ z hz).2) (by have:=b.len d.nm.1; omega) m h2 em2 _ ?_;have hh:=O' d.nm.2 (Bd d.nm.1);have gsl2:=y1 _ _ g1;have g22:=gF y1 g2;have g32:=y1 _ _ g3;have xh2:=x.trans y1;cases eh:EB d.nm.2 (Bd d.nm.1) with
   | some z=>
    rw [eh] at hh;simp only [eh];refine now ?_;have hzb:z.nm.1=d.nm.1:=(b.back _ z (List.mem_of_find?_eq_some eh)).1;have hput:sN (.ref h.length) (pv d.nm) (pv z.nm) h2=some (h2.set h.length (.dD (dO (T.map tkE) (pv d.nm) (pv z.nm)))):=KG g22 Pq (by rw [ae]; omega);have eput:dO (T.map tkE) (pv d.nm) (pv z.nm)=(T++[(d.nm.1,hdD d,hdD z)]).map tkE:=by
     unfold dO;rw [if_neg (fun zz=>by
      obtain ⟨x,hx,e1,e2⟩:=(B7 d.nm T).mp zz;exact hnew (by have:=nT x hx; rw [e1,e2] at this; exact this)),cj]
     congr 1
     have e3:pv z.nm=pv (d.nm.1,z.nm.2):=by rw [<- hzb]
     show [(pv d.nm,pv z.nm)]=[(pv (d.nm.1,d.nm.2),pv (d.nm.1,z.nm.2))]
     rw [e3]
    rw [eput] at hput;obtain ⟨o,ho,_,_⟩:=gE g22;have nz:jT (pv z.nm)=false:=rfl;simp [nz,dP0];refine ⟨_,hput,T++[(d.nm.1,hdD d,hdD z)],R,Bd,kE xh2 (ai _),eL gsl2 (by omega),Gn (dU ho),eL g32 (by omega),(b1.aside (by omega)).up,by simp; omega,?_,?_,_,_,_,_,_,rfl⟩
    ·intro x hx;rcases ba.mp hx with hx | hx
     ·exact nT1 x hx
     ·rw [bj.mp hx,htk,cj];exact ao _ (by simp [hdD])
    ·rw [hr];have e1:hit (tri d).2.1 ((Bd (tri d).1).map hdD)=some (hdD z):=hh;rw [List.append_assoc]
     congr 1
     show (match d.kd,hit d.nm.2 ((Bd d.nm.1).map hdD) with | .settle,_=>_ | _,some b=>_ | .back _ _,none=>_ | .other,none=>_)=_
     rw [hh];cases ek2:d.kd with
     | settle=>exact (ek ek2).elim
     | back f l=>rfl
     | other=>rfl
   | none=>
    rw [eh] at hh;simp only [eh];refine now ?_;simp
    by_cases c2:wd="back"
    ·obtain ⟨f,l,ek2⟩:=eb.mp c2;have hdc2:eD (.ref (h.length+1)) h2=true:=oC g32;simp [c2,hdc2];have z1:Ext h2 (h2++[MO.lst []]):=Ext.app _ _;have z2:(h2++[MO.lst []])[h2.length]?=some (.lst (([]:List Dd).map dP)):=aK;have hl2:h'.length<=h2.length:=y1.len;generalize h2++[MO.lst []]=h4 at z1 z2;have g34:=z1 _ _ g32;have hsd:=HB (x:=d.nm.1) (z:=.ref h2.length) g34 (by unfold em; rw [ae]; have:=b.lenR; omega);rw [GA] at hsd;have xh4:=xh2.trans z1;have run2:run (L.map tri) (fun _=>[])=T++run ((L.drop (q+1)).map tri) (fun w=>(if w=d.nm.1 then Bd d.nm.1++[d] else Bd w).map hdD):=by
      rw [hr]
      congr 1
      show (match d.kd,hit d.nm.2 ((Bd d.nm.1).map hdD) with | .settle,_=>_ | _,some b=>_ | .back _ _,none=>_ | .other,none=>_)=_
      rw [hh,ek2]
      show run _ _=run _ _
      congr 1
      funext w
      show (if w=d.nm.1 then (Bd w).map hdD++[hdD d] else (Bd w).map hdD)=_
      by_cases e:w=d.nm.1
      ·rw [if_pos e,if_pos e,e,cj]; rfl
      ·rw [if_neg e,if_neg e]
     cases e:lk R d.nm.1 with
     | some m'=>
      rw [e] at hsd;have b4:=b1.get z1;obtain ⟨q1,q2,q3⟩:=b4.at' _ _ e;simp [hsd,sU q1];have hap:=iX (p:=dP d) q1 (by rw [ae]; have:=b.len d.nm.1; omega);have b5:=b4.grow e wf ⟨f,l,ek2⟩;rw [show (Bd d.nm.1).map dP++[dP d]=(Bd d.nm.1++[d]).map dP by simp] at hap;rw [hap,dN];obtain ⟨o,ho,_,hh2⟩:=gE (gF z1 g22);exact ⟨T,R,_,kE xh4 (by omega),eL (z1 _ _ gsl2) (by omega),hh2 _ (eL ho (by omega)),eL g34 (by omega),b5,by omega,nT1,run2,_,_,_,_,_,rfl⟩
     | none=>
      rw [e] at hsd;simp at hsd;rw [Pr] at hsd;have q1:(h4.set (h.length+1) (.dK (em PV.ref (dpt R d.nm.1 h2.length))))[h2.length]?=some (.lst (([]:List Dd).map dP)):=eL z2 (by omega);simp [hsd,sU q1];have hap:=iX (p:=dP d) q1 (by simp);rw [show (([]:List Dd).map dP++[dP d])=[d].map dP from rfl] at hap
      rw [hap,dN];have nox:∀ x,lk R x≠some h2.length:=fun x z=>by
       have:=(ab.mp (b1.at' x _ z).1).1;omega
      have b6:=((b1.get z1).aside (n:=h.length+1) (o:=.dK (em PV.ref (dpt R d.nm.1 h2.length))) (ai _)).skip (n:=h2.length) (o:=.lst ([d].map dP)) nox;have b7:=b6.put (w:=d.nm.1) (bs:=[d]) (m:=h2.length) (dU q1) (by omega) (by omega) nox (fun y hy=>by
       rw [bj.mp hy]; exact ⟨rfl,wf,f,l,ek2⟩) (by simp)
      have eB:Bd d.nm.1=[]:=b.no _ e;rw [eB] at run2;obtain ⟨o,ho,_,hh2⟩:=gE (gF z1 g22);refine ⟨T,_,_,kE (kE xh4 (by omega)) (by omega),eL (eL (z1 _ _ gsl2) (by omega)) (by omega),hh2 _ (eL (eL ho (by omega)) (by omega)),eL (dU g34) (by omega),b7,by omega,nT1,run2,_,_,_,_,_,rfl⟩
    ·have ek2:d.kd=.other:=by
      cases z:d.kd with
      | settle=>exact (ek z).elim
      | back f l=>exact (c2 (eb.mpr ⟨f,l,z⟩)).elim
      | other=>rfl
     simp [c2];refine ⟨T,R,Bd,xh2,gsl2,g22,g32,b1.up,by omega,nT1,?_,_,_,_,_,_,rfl⟩;rw [hr]
     congr 1
     show (match d.kd,hit d.nm.2 ((Bd d.nm.1).map hdD) with | .settle,_=>_ | _,some b=>_ | .back _ _,none=>_ | .other,none=>_)=_
     rw [hh,ek2];rfl
 ·rintro δ h' ⟨T,R,Bd,x,g1,g2,g3,b,lT,nT,hr,x3,x4,x5,x6,x7,rfl⟩;refine now ?_;simp;have hr':run (L.map tri) (fun _=>[])=T:=by
   rw [hr,ae,k6]
   show T++[]=T
   rw [lp]
  exact k L h.length h' x hp hf (by rw [hr']; exact g2)
theorem jB {α:Type} (c:α->Bool) (f:α->PV):∀ xs:List α,xs.filterMap (fun x=>if c x=true then some (f x) else none)=(xs.filter c).map f
 | []=>rfl
 | x :: xs=>by
  rw [dg,iu];cases e:c x <;> simp [jB c f xs]
noncomputable def TkL (L:List Dd) (p:Str×Int):Prop:=∃ x∈run (L.map tri) fun _=>[],x.1=p.1/\x.2.1.1=p.2
structure TN (ds out L:List Dd):Prop where
 nd:(out.map (·.nm)).Nodup
 ln:(L.map (·.nm)).Nodup
 fall:zU L
 mem:∀ d,d∈L ↔ d∈ds
 out:∀ d,d∈out ↔ d∈ds/\¬ TkL L d.nm
theorem CG (ds:List Dd) (hw:∀ d∈ds,Wf d) (hl:ds.length<=63) (hu:∀ d∈ds,∀ e∈ds,d.nm=e.nm->d=e) (n:Nat) (h:PH) (g:h[n]?=some (.lst (ds.map dP))) (Q:PV->PH->Prop)
  (k:∀ out L l h',Ext h h'->h'[l]?=some (.lst (out.map dP))->TN ds out L->mS out->Q (.ref l) h'):(eO [.ref n] h).W Q:=by
 refine fG ?_;unfold mQ;rw [aM];simp;refine kF ds hw hl hu n h g _ fun os l h1 x1 g1 nd mem rk=>?_
 try simp
 refine now ?_;rw [aM];simp;have hlo:os.length<=ds.length:=by
  have h1:(os.map (·.nm)).length<=(ds.map (·.nm)).length:=gm nd fun p hp=>by
   obtain ⟨d,hd,rfl⟩:=az.mp hp;exact az.mpr ⟨d,(mem d).mp hd,rfl⟩
  simpa using h1
 refine HU os (fun d hd=>hw d ((mem d).mp hd)) (by omega) nd l h1 g1 _ fun L t h2 x2 hp hf ht=>?_
 try simp
 refine now ?_;have g2:=x2 _ _ g1;have hc:=dX (js:=[none,some 2]) (tg:=gN 0) (tst:=bZ (aE iY (aE vAt (mV 0) (mC (.int 0))) (mV 1))) (elt:=mV 0) (m:=mV 1) (δ:=[some (.ref n),some (.ref l),some (.ref t)]) (h:=h2) (h1:=h2) (n:=l) (ys:=os) (emb:=dP)
  (fun d=>if (!(aV ((run (L.map tri) fun _=>[]).map tkE) (pv d.nm)).isSome)=true then some (dP d) else none) (by simp) g2 (by omega) (fun d hd=>⟨_,rfl,fun h3 hx=>by
   have hn:iY (pv d.nm) (.ref t) h3=.ok (.bl (!(aV ((run (L.map tri) fun _=>[]).map tkE) (pv d.nm)).isSome)) h3:=HA (gF hx ht) rfl;cases e:(aV ((run (L.map tri) fun _=>[]).map tkE) (pv d.nm)).isSome with
   | true=>rw [e] at hn; simp [cB,dP0,hn]
   | false=>rw [e] at hn; simp [cB,dP0,hn]⟩)
 rw [jB (fun d=>!(aV ((run (L.map tri) fun _=>[]).map tkE) (pv d.nm)).isSome) dP] at hc;simp [hc];have ndL:(L.map (·.nm)).Nodup:=(hp.map _).nodup_iff.mpr nd;refine k _ L _ _ ((x1.trans x2).trans (Ext.app _ _)) aK ⟨?_,ndL,hf,fun d=>hp.mem_iff.trans (mem d),fun d=>?_⟩ ?_
 ·exact (k8.map _).nodup nd
 ·rw [fi,mem d];have:=B7 d.nm (run (L.map tri) fun _=>[]);unfold TkL;cases e:aV ((run (L.map tri) fun _=>[]).map tkE) (pv d.nm) with
  | none=>
   rw [e] at this;exact and_congr l9 ⟨fun _ z=>(by have q:=this.mpr z; cases q),fun _=>rfl⟩
  | some p=>
   rw [e] at this;exact and_congr l9 ⟨fun z=>(by cases z),fun z=>(z (this.mp rfl)).elim⟩
 ·exact rk.sublist k8
theorem Lf {F G:List Dd} (nF:(F.map (·.nm)).Nodup) (nG:(G.map (·.nm)).Nodup) (hF:zU F) (hG:zU G) (m:∀ x,x∈F ↔ x∈G):F=G:=by
 refine gu (le:=fun (a b:Dd)=>bR (nmL a) (nmL b)=false) (fun a b ha hb h1 h2=>?_) hF hG ?_
 ·have e:nmL a=nmL b:=jO rfl h1 h2;have e2:a.nm=b.nm:=by
   unfold nmL at e;simp at e;exact Prod.ext e.1 e.2
  obtain ⟨j,hj⟩:=dr.mp ha;obtain ⟨k,hk⟩:=dr.mp ((m b).mpr hb);have:=L' nF (i:=j) (j:=k) (a:=b.nm) (by rw [aj,hj]; simp [e2]) (by rw [aj,hk]; rfl);subst this;rw [hj] at hk;exact bg hk
 ·exact (fw (dj _ (fun a b q e=>q (by rw [e])) nF) (dj _ (fun a b q e=>q (by rw [e])) nG)).mpr m
noncomputable def kdOf:Ac->Kd
 | .settle=>.settle
 | .back a b=>.back a b
 | .add _=>.other
noncomputable def acL:Ac->List PV
 | .settle=>[.str "settle"]
 | .back a b=>[.str "back",.int a,.int b]
 | .add n=>[.str "add",.tup [.str "t",.int 1],.int n]
noncomputable def dD (d:De):Dd:=⟨d.nm,d.sn,kdOf d.ac,acL d.ac⟩
theorem Lg (d:De):deV d=dP (dD d):=by
 obtain ⟨nm,sn,ac⟩:=d;cases ac <;> rfl
theorem GB (T:List De):T.map deV=(T.map dD).map dP:=by
 rw [bq];exact dw fun d _=>Lg d
theorem TQ {d:De} (l:d.sn.length<=100):Wf (dD d):=by
 refine ⟨l,?_,?_⟩
 ·obtain ⟨nm,sn,ac⟩:=d;cases ac with
  | settle=>exact rfl
  | back a b=>exact rfl
  | add n=>exact ⟨_,_,rfl,by decide +kernel,by decide +kernel⟩
 ·obtain ⟨nm,sn,ac⟩:=d;cases ac <;> rfl
theorem TU {d:De}:(dP (dD d)).pl 39=true:=by rw [<- Lg]; exact R4 d
structure oU (R:List Row) (os:List Dd):Prop where
 nd:(os.map (·.nm)).Nodup
 me:∀ d,d∈os ↔ ∃ z∈R,dD z.d=d
 br:mS os
theorem vL {xs ys:List Dd} (nx:(xs.map (·.nm)).Nodup) (ny:(ys.map (·.nm)).Nodup) (bx:mS xs) (b':mS ys) (m:∀ d,d∈xs ↔ d∈ys):xs=ys:=by
 have uq:∀ a∈xs,∀ b∈xs,a.nm=b.nm->a=b:=fun a ha b hb e=>by
  obtain ⟨j,hj⟩:=dr.mp ha;obtain ⟨k,hk⟩:=dr.mp hb;have:=L' nx (i:=j) (j:=k) (a:=b.nm) (by rw [aj,hj]; simp [e]) (by rw [aj,hk]; rfl);subst this;rw [hj] at hk;exact bg hk
 refine gu (le:=fun (a b:Dd)=>bR (kyL b) (kyL a)=false) (fun a b ha hb h1 h2=>?_) bx b' ?_
 ·exact uq a ha b ((m b).mpr hb) (Lb a b (jO (by rfl) h2 h1))
 ·exact (fw (dj _ (fun a b q e=>q (by rw [e])) nx) (dj _ (fun a b q e=>q (by rw [e])) ny)).mpr m
theorem oU.one {R:List Row} {os ps:List Dd} (a:oU R os) (b:oU R ps):os=ps:=vL a.nd b.nd a.br b.br fun d=>(a.me d).trans (b.me d).symm
theorem R6 {R:List Row} (inc:Inc R) {z y:Row} (hz:z∈R) (hy:y∈R) (e:z.d.nm=y.d.nm):z=y:=by
 obtain ⟨i,hi⟩:=dr.mp hz;obtain ⟨j,hj⟩:=dr.mp hy;obtain ⟨l1,e1⟩:=ab.mp hi;obtain ⟨l2,e2⟩:=ab.mp hj;have pw:=d5.mp inc;rcases Nat.lt_trichotomy i j with h | h | h
 ·have:=pw i j l1 l2 h;rw [e1,e2,e] at this;exact absurd (this rfl) (Int.lt_irrefl _)
 ·subst h;exact e1.symm.trans e2
 ·have:=pw j i l2 l1 h;rw [e1,e2,e] at this;exact absurd (this rfl) (Int.lt_irrefl _)
theorem Ob {R:List Row} (inc:Inc R):((R.map fun z=>dD z.d).map (·.nm)).Nodup:=by
 unfold List.Nodup;rw [c7,c7];refine inc.imp fun {a b} h e=>?_;have e:a.d.nm=b.d.nm:=e;have:=h (congrArg Prod.fst e);rw [e] at this;omega
theorem dA.l100 {hs:List Str} (h6:hs.length<=6) {z:Row} (o:dA hs z):z.d.sn.length<=100:=by
 have:=o.sn.1;omega
theorem R7 {hs:List Str} (h6:hs.length<=6) {R:List Row} (inc:Inc R) (ok:∀ z∈R,dA hs z) {T:List De} (mem:∀ d,d∈T ↔ d∈R.map (·.d)):(∀ d∈T.map dD,Wf d)/\(∀ d∈T.map dD,∀ e∈T.map dD,d.nm=e.nm->d=e)/\∀ d,d∈T.map dD ↔ ∃ z∈R,dD z.d=d:=by
 have m:∀ d,d∈T.map dD ↔ ∃ z∈R,dD z.d=d:=fun d=>by
  constructor
  ·intro h;obtain ⟨e,he,rfl⟩:=az.mp h;obtain ⟨z,hz,rfl⟩:=az.mp ((mem e).mp he);exact ⟨z,hz,rfl⟩
  ·rintro ⟨z,hz,rfl⟩;exact az.mpr ⟨z.d,(mem z.d).mpr (az.mpr ⟨z,hz,rfl⟩),rfl⟩
 refine ⟨fun d hd=>?_,fun d hd e he h=>?_,m⟩
 ·obtain ⟨z,hz,rfl⟩:=(m d).mp hd;exact TQ ((ok z hz).l100 h6)
 ·obtain ⟨z,hz,rfl⟩:=(m d).mp hd;obtain ⟨y,hy,rfl⟩:=(m e).mp he;rw [R6 inc hz hy h]
theorem CH {hs:List Str} (h6:hs.length<=6) {R:List Row} (inc:Inc R) (ok:∀ z∈R,dA hs z) {T:List De} (lT:T.length<=63) (mem:∀ d,d∈T ↔ d∈R.map (·.d)) {os:List Dd} (o:oU R os) {l:Nat} {h:PH} (g:h[l]?=some (.lst (T.map deV))) (Q:PV->PH->Prop)
  (k:∀ l' h',Ext h h'->h'[l']?=some (.lst (os.map dP))->Q (.ref l') h'):(cH [.ref l] h).W Q:=by
 obtain ⟨t1,t2,t3⟩:=R7 h6 inc ok mem;rw [GB] at g;refine kF (T.map dD) t1 (by rw [ae]; exact lT) t2 l h g Q fun os' l' h' x' g' n' m' b'=>?_;have:os'=os:=oU.one (R:=R) ⟨n',fun d=>(m' d).trans (t3 d),b'⟩ o;subst this;exact k l' h' x' g'
noncomputable def sP (M:Int) (d:Dd):Bool:=decide (1+tot d.seen<=M)
noncomputable def xF (S:Seen) (nm:Str×Int):Bool:=match look S nm.1 with | some n=>decide (nm.2<=n) | none=>false
theorem HV (S:Seen) (nm:Str×Int) (h:PH):iI [sv S,pv nm] h=.ok (.bl (xF S nm)) h:=by
 have w:(iI [sv S,pv nm] h).W fun q h'=>q=.bl (xF S nm)/\h'=h:=by
  refine fG ?_;unfold vF;rw [aM];refine Kg (xs:=S.map pv) (fun q δ h'=>h'=h/\look (S.drop q) nm.1=look S nm.1/\∃ x2 x3,δ=[some (sv S),some (pv nm),x2,x3]) (.inl (by simp [Gw])) ⟨rfl,rfl,_,_,rfl⟩ ?_ ?_
  ·rintro q x δ h' hx ⟨rfl,hk,x2,x3,rfl⟩;rw [aj] at hx;obtain ⟨p,hp,rfl⟩:=bf.mp hx;have hd:S.drop q=p :: S.drop (q+1):=by
    obtain ⟨hl,e⟩:=ab.mp hp;rw [jc hl,e]
   rw [hd,fJ] at hk;refine ⟨_,by simp [pv]; rfl,?_⟩;unfold vE
   by_cases e:p.1=nm.1
   ·rw [if_pos e] at hk;simp [pv,e,xF];rw [<- hk]
   ·rw [if_neg e] at hk;simp [pv,e];exact hk
  ·rintro δ h' ⟨rfl,hk,x2,x3,rfl⟩;refine now ?_;rw [ae,k6] at hk;simp [<- hk,look,xF]
 obtain ⟨q,h',e,rfl,rfl⟩:=uG w;exact e
noncomputable def zV (R:List Row) (x:Str):Option Row:=(R.filter fun z=>hB x z.d).getLast?
noncomputable def oV (hs:List Str) (R:List Row) (p:Str×Int) (x:Str):Bool:=match zV R x with
 | none=>false
 | some z=>decide (p.2<=z.c.getD (hs.idxOf p.1) 0)
theorem Oc {hs:List Str} {R:List Row} {x:Str} {v:PV} (a:Gz hs R x v):∃ S,v=sv S/\∀ p:Str×Int,p.1∈hs->1<=p.2->xF S p=oV hs R p x:=by
 have a:match zV R x with | none=>v=.tup [] | some z=>∃ S,v=sv S/\cD hs z.c S:=a
 cases e:zV R x with
 | none=>
  rw [e] at a;refine ⟨[],a,fun p _ _=>?_⟩;unfold oV;rw [e];rfl
 | some z=>
  rw [e] at a;obtain ⟨S,rfl,so⟩:=a;refine ⟨S,rfl,fun p h1 h2=>?_⟩;unfold xF oV;rw [so.lk,e];unfold kC
  by_cases q:0 < z.c.getD (hs.idxOf p.1) 0
  ·rw [if_pos ⟨h1,q⟩]
  ·rw [if_neg fun w=>q w.2]
   symm
   dsimp only;rw [decide_eq_false_iff_not];omega
noncomputable def allB (hs:List Str) (R:List Row) (p:Str×Int):Bool:=hs.all (oV hs R p)
noncomputable def bnd (hs:List Str) (T:List De):Int:=jZ (hs.map fun x=>stV (maxD ((T.filter fun d=>acB d.ac).filter fun d=>decide (d.nm.1=x))))
theorem CI {hs:List Str} {R:List Row}:∀ {vs:List PV} (P:Nat->Str->Seen->Prop),(∀ (i:Nat) (v:PV),vs[i]?=some v->∃ x S,hs[i]?=some x/\v=sv S/\P i x S)->∃ Ss:List Seen,vs=Ss.map sv/\∀ (i:Nat) (S:Seen),Ss[i]?=some S->∃ x S',hs[i]?=some x/\sv S=sv S'/\P i x S'
 | [],_,_=>⟨[],rfl,fun i S h=>by simp at h⟩
 | v :: vs,P,h=>by
  obtain ⟨x,S,hx,rfl,hp⟩:=h 0 v rfl;cases hs with
  | nil=>simp at hx
  | cons y hs=>
   obtain ⟨Ss,e,q⟩:=CI (hs:=hs) (R:=R) (vs:=vs) (fun i=>P (i+1)) fun i u hu=>by
    obtain ⟨x',S',h1,h2,h3⟩:=h (i+1) u (by simpa using hu)
    exact ⟨x',S',by simpa using h1,h2,h3⟩
   refine ⟨S :: Ss,by rw [e]; rfl,fun i S' hi=>?_⟩;cases i with
   | zero=>
    simp at hi;subst hi;exact ⟨x,S,hx,rfl,hp⟩
   | succ i=>
    obtain ⟨x',S'',h1,h2,h3⟩:=q i S' (by simpa using hi)
    exact ⟨x',S'',by simpa using h1,h2,h3⟩
theorem R8 {S T:Seen} (h:sv S=sv T):S=T:=by
 have h:S.map pv=T.map pv:=PV.tup.inj h;exact (List.map_inj_right fun a b e=>B2 e).mp h
theorem oU.ok {hs:List Str} (h6:hs.length<=6) {R:List Row} (ok:∀ z∈R,dA hs z) {os:List Dd} (o:oU R os) {d:Dd} (h:d∈os):d.seen.length<=100/\d.nm.1∈hs/\1<=d.nm.2:=by
 obtain ⟨z,hz,rfl⟩:=(o.me d).mp h;obtain ⟨w,c0,hw,lc,c1,ec,en,so⟩:=(ok z hz).ex;refine ⟨(ok z hz).l100 h6,?_,?_⟩
 ·show z.d.nm.1∈hs
  rw [en];have:hs.getD w "" = hs[w]:=by simp [hw]
  show hs.getD w "" ∈ hs
  rw [this];exact ee hw
 ·show 1<=z.d.nm.2
  rw [en]
  show 1<=c0.getD w 0+1
  omega
theorem R9 {hs:List Str} (h6:hs.length<=6) {R:List Row} (ok:∀ z∈R,dA hs z) {T:List De} (mem:∀ d,d∈T ↔ d∈R.map (·.d)):∀ d∈T,d.sn.length<=1000:=fun d hd=>by
 obtain ⟨z,hz,rfl⟩:=az.mp ((mem d).mp hd);have:=(ok z hz).l100 h6;omega
theorem oU.len {R:List Row} {os:List Dd} (o:oU R os) (inc:Inc R):os.length=R.length:=by
 have n:=Ob inc;have p:os.Perm (R.map fun z=>dD z.d):=(fw (dj _ (fun a b q e=>q (by rw [e])) o.nd) (dj _ (fun a b q e=>q (by rw [e])) n)).mpr fun d=>(o.me d).trans (by rw [az]);rw [p.length_eq,ae]
noncomputable def Lh (hs:List Str) (R:List Row) (M:Int) (os:List Dd):List (Str×Int):=((os.filter (sP M)).map (·.nm)).filter (allB hs R)
theorem Od {hs:List Str} (nd:hs.Nodup) (h0:hs≠[]) (h6:hs.length<=6) {R:List Row} (inc:Inc R) (ok:∀ z∈R,dA hs z) (lR:R.length<=60) {T:List De} (lT:T.length<=63) (mem:∀ d,d∈T ↔ d∈R.map (·.d)) {os:List Dd} (o:oU R os) {lh l:Nat} {h:PH} (gh:h[lh]?=some (.lst (hs.map PV.str))) (g:h[l]?=some (.lst (T.map deV))) (Q:PV->PH->Prop)
  (k:∀ l' h',Ext h h'->h.length<=l'->h'[l']?=some (.lst ((Lh hs R (bnd hs T) os).map pv))->Q (.ref l') h'):(B0 [.ref lh,.ref l] h).W Q:=by
 refine fG ?_;unfold Ey;rw [aM];simp;refine vK h0 h6 (by omega) (R9 h6 ok mem) gh g _ fun h1 x1=>?_;have lo:=o.len inc;generalize hM:jZ (hs.map fun x=>stV (maxD ((T.filter fun d=>acB d.ac).filter fun d=>decide (d.nm.1=x))))=M;have hM:bnd hs T=M:=hM;rw [hM] at k;refine now ?_;rw [aM];obtain ⟨p2,h2,e2,l2,rfl,x2,g2⟩:=uG (CH h6 inc ok lT mem o (x1 _ _ g) (fun p h'=>∃ l,p=.ref l/\Ext h1 h'/\h'[l]?=some (.lst (os.map dP))) fun l h' y g=>⟨l,rfl,y,g⟩);rw [lQ];refine B5 (ys:=os) (emb:=dP) (sP M) (fun d=>pv d.nm) (dW (by rw [uH]; simp [e2]) g2) (cR g2) (by omega) (fun d hd=>⟨_,rfl,fun h3 x3 Q3 k3=>?_,fun h3 x3=>by simp [cB,dP0]⟩) fun l3 h3 x3 _ g3=>?_
 ·simp [cB];refine qO d (o.ok h6 ok hd).1 _ _ fun h5 x5=>?_;simp;exact k3 _ x5
 refine now ?_;rw [aM,lQ];have y3:=(x1.trans x2).trans x3;refine sY (fun i v=>∃ x S,hs[i]?=some x/\v=sv S/\∀ p:Str×Int,p.1∈hs->1<=p.2->xF S p=oV hs R p x) (dW (by simp) (y3 _ _ gh)) (cR (y3 _ _ gh)) (by rw [ae]; omega) (fun i v hv=>?_) fun l4 h4 vs x4 _ lv g4 ov=>?_
 ·rw [aj] at hv;obtain ⟨x,hx,rfl⟩:=bf.mp hv;refine ⟨_,rfl,fun h5 x5 Q5 k5=>?_⟩;simp [cB];refine CA nd h6 inc ok (by omega) mem x (x5 _ _ (y3 _ _ g)) _ fun v h6' x6 dv=>?_;obtain ⟨S,eS,hS⟩:=Oc dv;exact k5 v h6' x6 ⟨x,S,hx,eS,hS⟩
 refine now ?_;rw [ae] at lv;obtain ⟨Ss,rfl,oS⟩:=CI (R:=R) (fun i x S=>∀ p:Str×Int,p.1∈hs->1<=p.2->xF S p=oV hs R p x) ov;rw [ae] at lv;rw [nR];have g3':=x4 _ _ g3;have e3:((os.filter (sP M)).map fun d=>pv d.nm)=((os.filter (sP M)).map (·.nm)).map pv:=by rw [bq]; rfl
 rw [e3] at g3';refine B5 (ys:=(os.filter (sP M)).map (·.nm)) (emb:=pv) (allB hs R) pv (dW (by simp) g3') (cR g3') ?_ (fun p hp=>⟨_,rfl,fun h5 x5 Q5 k5=>?_,fun h5 x5=>by simp [cB]⟩) fun l6 h6' x6 l6' g6=>?_
 ·rw [ae];have:=List.length_filter_le (sP M) os;omega
 ·obtain ⟨d,hd,rfl⟩:=az.mp hp;obtain ⟨_,d2,d3⟩:=o.ok h6 ok (fi.mp hd).1;have g4':=x5 _ _ g4;have hc:=dX (m:=mV 1) (n:=l4) (js:=[none,some 0]) (tg:=gN 0) (tst:=dS) (elt:=bL 2 iI (aC (mV 0) (aC (mV 1) aJ))) (δ:=[some (pv d.nm),some (.ref l4)]) (h:=h5) (h1:=h5) (ys:=Ss) (emb:=sv)
   (fun S=>some (.bl (xF S d.nm))) (by simp) g4' (by omega) (fun S hS=>⟨_,rfl,fun h7 x7=>⟨rfl,by simp [cB,HV]⟩⟩)
  rw [filterMap_some] at hc;have eb:(Ss.map fun S=>PV.bl (xF S d.nm))=(hs.map (oV hs R d.nm)).map PV.bl:=by
   rw [bq];refine e8 fun i=>?_;rw [aj,aj];cases e:Ss[i]? with
   | none=>
    have:hs[i]?=none:=by
     rw [ja] at e ⊢;omega
    rw [this];rfl
   | some S=>
    obtain ⟨x,S',hx,es,hS⟩:=oS i S e;rw [R8 es,hx];simp only [Option.map_some,Function.comp];rw [hS d.nm d2 d3]
  rw [eb] at hc;have g8:(h5++[MO.lst ((hs.map (oV hs R d.nm)).map PV.bl)])[h5.length]?=some (.lst ((hs.map (oV hs R d.nm)).map PV.bl)):=aK;have x8:Ext h5 (h5++[MO.lst ((hs.map (oV hs R d.nm)).map PV.bl)]):=Ext.app _ _;have va:=Ko g8;have ea:(hs.map (oV hs R d.nm)).all id=allB hs R d.nm:=by rw [List.all_map]; rfl
  rw [ea] at va;have k5:=k5 _ x8;generalize h5++[MO.lst ((hs.map (oV hs R d.nm)).map PV.bl)]=h8 at hc va k5;simp [cB] at hc ⊢;rw [hc,dN,va];simp;exact k5
 ·exact k l6 h6' ((y3.trans x4).trans x6) (c9 (y3.trans x4).len l6') g6
structure InF (R:List Row) (out:List Dd):Prop where
 nd:(out.map (·.nm)).Nodup
 br:mS out
 ex:∃ L:List Dd,(L.map (·.nm)).Nodup/\zU L/\(∀ d,d∈L ↔ ∃ z∈R,dD z.d=d)/\∀ d,d∈out ↔ (∃ z∈R,dD z.d=d)/\¬ TkL L d.nm
theorem InF.one {R:List Row} {a b:List Dd} (x:InF R a) (y:InF R b):a=b:=by
 obtain ⟨F,f0,f1,f2,f3⟩:=x.ex;obtain ⟨G,g0,g1,g2,g3⟩:=y.ex;have e:=Lf f0 g0 f1 g1 fun d=>(f2 d).trans (g2 d).symm;subst e;exact vL x.nd y.nd x.br y.br fun d=>(f3 d).trans (g3 d).symm
theorem vM {hs:List Str} (h6:hs.length<=6) {R:List Row} (inc:Inc R) (ok:∀ z∈R,dA hs z) {T:List De} (lT:T.length<=63) (mem:∀ d,d∈T ↔ d∈R.map (·.d)) {l:Nat} {h:PH} (g:h[l]?=some (.lst (T.map deV))) (Q:PV->PH->Prop)
  (k:∀ out l' h',Ext h h'->h'[l']?=some (.lst (out.map dP))->InF R out->Q (.ref l') h'):(eO [.ref l] h).W Q:=by
 obtain ⟨t1,t2,t3⟩:=R7 h6 inc ok mem;rw [GB] at g;refine CG (T.map dD) t1 (by rw [ae]; exact lT) t2 l h g Q fun out L l' h' x' g' f b'=>?_;exact k out l' h' x' g' ⟨f.nd,b',L,f.ln,f.fall,fun d=>(f.mem d).trans (t3 d),fun d=>by rw [f.out d,t3 d]⟩
theorem InF.sub {R:List Row} {out:List Dd} (x:InF R out) {d:Dd} (h:d∈out):∃ z∈R,dD z.d=d:=by
 obtain ⟨F,f0,f1,f2,f3⟩:=x.ex;exact ((f3 d).mp h).1
theorem InF.len {R:List Row} {out:List Dd} (x:InF R out):out.length<=R.length:=by
 have h1:(out.map (·.nm)).length<=(R.map fun z=>z.d.nm).length:=gm x.nd fun p hp=>by
  obtain ⟨d,hd,rfl⟩:=az.mp hp;obtain ⟨z,hz,rfl⟩:=x.sub hd;exact az.mpr ⟨z,hz,rfl⟩
 simpa using h1
theorem EC {hs:List Str} (h0:hs≠[]) (h6:hs.length<=6) {R:List Row} (inc:Inc R) (ok:∀ z∈R,dA hs z) (lR:R.length<=60) {T:List De} (lT:T.length<=63) (mem:∀ d,d∈T ↔ d∈R.map (·.d)) {out:List Dd} (o:InF R out) {lh l:Nat} {h:PH} (gh:h[lh]?=some (.lst (hs.map PV.str))) (g:h[l]?=some (.lst (T.map deV))) (Q:PV->PH->Prop)
  (k:∀ l' h',Ext h h'->h.length<=l'->h'[l']?=some (.lst ((out.filter (sP (bnd hs T))).map dP))->Q (.ref l') h'):(kX [.ref lh,.ref l] h).W Q:=by
 refine fG ?_;unfold qM;rw [aM];simp;refine vK h0 h6 (by omega) (R9 h6 ok mem) gh g _ fun h1 x1=>?_;generalize hM:jZ (hs.map fun x=>stV (maxD ((T.filter fun d=>acB d.ac).filter fun d=>decide (d.nm.1=x))))=M;have hM:bnd hs T=M:=hM;rw [hM] at k;refine now ?_;rw [nR];obtain ⟨p2,h2,e2,l2,rfl,x2,g2⟩:=uG (vM h6 inc ok lT mem (x1 _ _ g) (fun p h'=>∃ l,p=.ref l/\Ext h1 h'/\h'[l]?=some (.lst (out.map dP))) fun out' l h' y g o'=>⟨l,rfl,y,by rw [o.one o']; exact g⟩);have lo:=o.len;refine B5 (ys:=out) (emb:=dP) (sP M) dP (dW (by rw [uH]; simp [e2]) g2) (cR g2) (by omega) (fun d hd=>⟨_,rfl,fun h3 x3 Q3 k3=>?_,fun h3 x3=>by simp [cB]⟩) fun l3 h3 x3 l3' g3=>?_
 ·obtain ⟨z,hz,rfl⟩:=o.sub hd;simp [cB];refine qO (dD z.d) ((ok z hz).l100 h6) _ _ fun h5 x5=>?_;simp;exact k3 _ x5
 ·exact k l3 h3 ((x1.trans x2).trans x3) (c9 (x1.trans x2).len l3') g3
theorem Li (ps:List (Str×Int)):(ps.map pv).all (PV.pl 39)=true:=by
 rw [cg];intro x hx;obtain ⟨p,_,rfl⟩:=az.mp hx;rfl
theorem Ra {R:List Row} {xs:List Dd} (h:∀ d∈xs,∃ z∈R,dD z.d=d):(xs.map dP).all (PV.pl 39)=true:=by
 rw [cg];intro x hx;obtain ⟨d,hd,rfl⟩:=az.mp hx;obtain ⟨z,_,rfl⟩:=h d hd;exact TU
noncomputable def tv (n:Nat) (c:List Int):Int:=((ax n).map fun k=>c.getD k 0).sum
theorem B8 (n:Nat) (c:List Int):tv (n+1) c=tv n c+c.getD n 0:=by
 unfold tv;rw [List.range_succ,cj,List.sum_append];simp
theorem Pt {a b:List Int}:∀ n,(∀ k,k < n->a.getD k 0<=b.getD k 0)->tv n a<=tv n b
 | 0,_=>by simp [tv]
 | n+1,h=>by
  have h1:=Pt n fun k hk=>h k (by omega);have h2:=h n (by omega);rw [B8,B8]; omega
theorem GC (hs:List Str) (c:List Int) (nn:∀ k,0<=c.getD k 0):∀ ks:List Nat,((ks.filterMap (prs hs c)).map (·.2)).sum=(ks.map fun k=>c.getD k 0).sum
 | []=>rfl
 | k :: ks=>by
  rw [dg,a7,l0,<- GC hs c nn ks];unfold prs
  by_cases e:0 < c.getD k 0
  ·simp only [if_pos e,a7,l0]
  ·simp only [if_neg e];have:=nn k;omega
theorem Lj {a b:List Int} (p:a.Perm b):a.sum=b.sum:=by
 induction p with
 | nil=>rfl
 | cons x _ ih=>rw [l0,l0,ih]
 | swap x y l=>simp only [l0]; omega
 | trans _ _ h1 h2=>exact h1.trans h2
theorem cD.tot {hs:List Str} (nd:hs.Nodup) {c:List Int} (nn:∀ k,0<=c.getD k 0) {S:Seen} (a:cD hs c S):tot S=tv hs.length c:=by
 have nS:=dH a.asc;have nP:=L5 (c:=c) nd;have p:S.Perm ((ax hs.length).filterMap (prs hs c)):=by
  rw [fw (dj _ (fun a b q e=>q (by rw [e])) nS) (dj _ (fun a b q e=>q (by rw [e])) nP)];intro q;rw [Gx nd (x:=q.1) (n:=q.2),<- a.lk];exact ⟨fun h=>fA nS h,fun h=>iK h⟩
 show (S.map (·.2)).sum=_
 unfold tv;rw [<- GC hs c nn];exact Lj (p.map (·.2))
theorem Lk (c:Int) (h:PH):∃ n,oH [.int c,.int 1] h=.ok (.int n) h:=by
 have w:(oH [.int c,.int 1] h).W fun p h'=>∃ n,p=.int n/\h'=h:=by
  refine fG ?_;unfold AV;rw [aM,yU];have last:∀ E:FE,(∀ n,E.rt (.int n) h)->Lt (aX (bM 2 (aE gI (aE Ay (aE bF (aE bF (mV 0) (aE Ay (mC (.int 7919)) (mV 1))) (mC (.int 1))) (mC (.int 48271))) (mC (.int 2147483647))))
   (cJ (aE gI (aE Ay (mV 2) (aE bF (aE mB (mV 2) (mC (.int 1009))) (mC (.int 69621)))) (mC (.int 2147483647))))) E [some (.int c),some (.int 1),none] h:=fun E k=>by
   refine now ?_;rw [aM];simp (disch:=omega);have b1:=gj ((c+7919+1)*48271) (b:=2147483647) (by omega);have b2:=gq ((c+7919+1)*48271) (b:=2147483647) (by omega);generalize (c+7919+1)*48271 % 2147483647=f at b1 b2;refine now ?_;simp (disch:=omega);exact k _
  have p9:(0:Int) < 10 ^ (9:Int).toNat:=by decide +kernel
  generalize hq:(10:Int) ^ (9:Int).toNat=P at p9;simp (disch:=first | omega | exact p9) [hq]
  split
  ·intro _;exact last _ fun n=>⟨⟨n,rfl⟩,rfl⟩
  ·exact last _ fun n=>⟨⟨n,rfl⟩,rfl⟩
 obtain ⟨p,h',e,n,rfl,rfl⟩:=uG w;exact ⟨n,e⟩
theorem Rb (way many c:Int) (h:PH) (Q:PV->PH->Prop) (k:∀ a:Ac,Q (acV a) h):(Cv [.int way,.int many,.int c] h).W Q:=by
 refine fG ?_;unfold KR;rw [aM];obtain ⟨N,eN⟩:=Lk c h;simp [eN];refine now ?_;rw [aM,yU];have last:∀ x4:Option PV,Lt (cJ (fE (aC (mC (.str "add")) (aC (fE (aC (mC (.str "t")) (aC (mC (.int 1)) aJ))) (aC (aE gI (mV 2) (aE JZ (mC (.int 10)) (mC (.int 39)))) aJ))))) { nx:=fun _ h=>Q .non h,rt:=Q } [some (.int way),some (.int many),some (.int c),some (.int N),x4] h:=fun x4=>by
  refine now ?_;have p39:(0:Int) < 10 ^ (39:Int).toNat:=by decide +kernel
  simp (disch:=first | omega | exact p39)
  exact k (.add _)
 by_cases e1:way < 2
 ·simp [e1];exact k .settle
 ·simp [e1];refine now ?_;rw [aM,yU]
  by_cases e2:way=2
  ·by_cases e3:0 < many
   ·simp [e2,e3];rw [aM];simp (disch:=omega);have b1:=gj N (b:=many) (by omega);have b2:=gq N (b:=many) (by omega);generalize N % many=f at b1 b2;refine now ?_;simp (disch:=omega);exact k (.back _ _)
   ·simp [e2,e3];have:=last none;rw [e2] at this;exact this
  ·simp [e2];exact last none
theorem cU {α:Type} (xs:List α) (i j:Nat) (v d:α) (hi:i < xs.length):(xs.set i v).getD j d=if i=j then v else xs.getD j d:=by
 by_cases e:i=j
 ·subst e; simp [hi]
 ·rw [if_neg e];simp [a8 e]
theorem GD (z:Str) (n:Int):(Txt.mul z n).length=z.length*n.toNat:=by
 have h:=PyProof.Rows.len_mul z n
 by_cases h0:n < 0
 ·rw [if_pos (by simpa using h0)] at h
  have:n.toNat=0:=by omega
  rw [this]; omega
 ·rw [if_neg (by simpa using h0)] at h
  have e:((n.toNat:Nat):Int)=n:=by omega
  have h2:((Txt.mul z n).length:Int)=((z.length*n.toNat:Nat):Int):=by rw [h,Int.natCast_mul,e]
  exact Int.ofNat.inj h2
noncomputable abbrev tk:Str:="k"
theorem ED:tk.length=1:=by decide +kernel
theorem Ll {n:Int} (h0:0<=n) (h1:n<=8) (h:PH):Hu (.str tk) (.int n) h=.ok (.str (Txt.mul tk n)) h:=by
 simp only [Hu];rw [if_pos ⟨by rw [ED]; omega,by omega,by omega⟩]
noncomputable def hnd (a b:Str) (i:Int):Str:=a++⟨#[97+i.toNat]⟩++b
theorem Oe {a b:Str} {i j:Int} (hi:0<=i) (hj:0<=j) (h:hnd a b i=hnd a b j):i=j:=by
 have e:=congrArg (fun z:Str=>z.cps.toList) h;simp only [hnd,app_list] at e;have e1:=List.append_cancel_left (List.append_cancel_right e);have e2:[97+i.toNat]=[97+j.toNat]:=e1;have e3:=List.cons.inj e2;omega
theorem Lm {c s:Int} (hs:1<=s/\s<=8) {i j:Nat} (hi:i < j) (hj:j < 6) (h:(c+i*s) % 26=(c+j*s) % 26):False:=by
 obtain ⟨d,rfl⟩:∃ d,j=i+d:=⟨j - i,by omega⟩;have e:((i+d:Nat):Int)*s=i*s+d*s:=by rw [Int.natCast_add,Int.add_mul]
 rw [e] at h;generalize (i:Int)*s=a at h;have e2:((d:Int)*s) % 26=0:=by omega
 have cd:d=1\/d=2\/d=3\/d=4\/d=5:=by omega
 rcases cd with rfl | rfl | rfl | rfl | rfl <;> simp at e2 <;> omega
noncomputable def xG (A B:Str) (c s:Int) (q:Nat):List Str:=(ax q).map fun (i:Nat)=>hnd A B ((c+(i:Int)*s) % 26)
theorem HW (A B:Str) (c s:Int) (q:Nat):xG A B c s (q+1)=xG A B c s q++[hnd A B ((c+(q:Int)*s) % 26)]:=by simp [xG,List.range_succ]
theorem Of (A B:Str) (c s:Int) (hs:1<=s/\s<=8) {n:Nat} (hn:n<=6):(xG A B c s n).Nodup:=by
 unfold xG;refine c7.mpr ?_;refine List.Pairwise.imp_of_mem (fun {i j} hi hj ne e=>?_) (List.nodup_range (n:=n));have h1:=d4.mp hi;have h2:=d4.mp hj;have e:=Oe (gj _ (by decide)) (gj _ (by decide)) e;rcases Nat.lt_or_gt_of_ne ne with z | z
 ·exact Lm hs z (by omega) e
 ·exact Lm hs z (by omega) e.symm
theorem Ln (c:Int) (h:PH) (Q:PV->PH->Prop) (k:∀ (hs:List Str) (l:Nat) h',Ext h h'->h.length<=l->1<=hs.length/\hs.length<=6->hs.Nodup->h'[l]?=some (.lst (hs.map PV.str))->Q (.ref l) h'):(sX [.int c] h).W Q:=by
 refine fG ?_;unfold AU;rw [aM]; simp (disch:=omega);refine now ?_;rw [aM]; simp (disch:=omega);refine now ?_;rw [aM]; simp;have x0:Ext h (h++[MO.lst []]):=Ext.app _ _;have g0:(h++[MO.lst []])[h.length]?=some (.lst (([]:List Str).map PV.str)):=aK;generalize h++[MO.lst []]=hA at x0 g0;have ha:0<=c / 8 % (1+c % 8)/\c / 8 % (1+c % 8) < 1+c % 8:=⟨gj _ (by omega),gq _ (by omega)⟩;generalize c / 8 % (1+c % 8)=a at ha;have hb:0<=1+c % 8 - 1 - a/\1+c % 8 - 1 - a<=8/\a<=8:=by omega
 generalize eA:Txt.mul tk a=A;generalize eB:Txt.mul tk (1+c % 8 - 1 - a)=B;have lA:A.length<=8:=by rw [<- eA,GD,ED]; omega
 have lB:B.length<=8:=by rw [<- eB,GD,ED]; omega
 refine now ?_;rw [aM];refine Kf (j:=1+c / 5 % 6) (fun q δ h'=>Ext h h'/\h'[h.length]?=some (.lst ((xG A B (c / 64) (1+c / 3 % 8) q).map PV.str))/\∃ x4 x5,δ=[some (.int c),some (.int (1+c % 8)),some (.int a),some (.ref h.length),x4,x5]) (by simp (disch:=omega)) (by omega) ⟨x0,g0,_,_,rfl⟩ ?_ ?_
 ·rintro q δ h' hq ⟨x1,g1,x4,x5,rfl⟩;unfold zM;rw [aM];have hi:0<=(c / 64+(q:Int)*(1+c / 3 % 8)) % 26/\(c / 64+(q:Int)*(1+c / 3 % 8)) % 26 < 26:=⟨gj _ (by decide),gq _ (by decide)⟩;have al:=O0 hi.1 hi.2;have vi:vIx (.str L0) (.int ((c / 64+(q:Int)*(1+c / 3 % 8)) % 26)) h'=.ok (.str ⟨#[97+((c / 64+(q:Int)*(1+c / 3 % 8)) % 26).toNat]⟩) h':=by rw [NG (by rw [HN]; omega),al]; rfl
  have es:=HW A B (c / 64) (1+c / 3 % 8) q;have lq:(xG A B (c / 64) (1+c / 3 % 8) q).length=q:=by simp [xG]
  simp (disch:=omega) [vi];refine now ?_;have r1:=Ll (n:=a) ha.1 hb.2.2 h';have r2:=Ll (n:=1+c % 8 - 1 - a) hb.1 hb.2.1 h';rw [eA] at r1;rw [eB] at r2;have p1:∀ x:Nat,bF (.str A) (.str ⟨#[x]⟩) h'=.ok (.str (A++⟨#[x]⟩)) h':=fun x=>yW (by show A.length+1<=_; omega);have p2:∀ x:Nat,bF (.str (A++⟨#[x]⟩)) (.str B) h'=.ok (.str (A++⟨#[x]⟩++B)) h':=fun x=>yW (by rw [L4]; omega);have ap:=iX (p:=PV.str (hnd A B ((c / 64+(q:Int)*(1+c / 3 % 8)) % 26))) g1 (by rw [ae,lq]; omega);unfold hnd at ap es;have il:=sU g1;generalize (c / 64+(q:Int)*(1+c / 3 % 8)) % 26=j at ap al hi es vi;simp [il,r1,r2,p1,p2,ap];refine ⟨x1.setN (ai _),?_⟩;rw [dU g1,es,cj];rfl
 ·rintro δ h' ⟨x1,g1,x4,x5,rfl⟩;refine now ?_;have hm:1<=(1+c / 5 % 6).toNat/\(1+c / 5 % 6).toNat<=6:=by omega
  generalize (1+c / 5 % 6).toNat=m at g1 hm;have lq:(xG A B (c / 64) (1+c / 3 % 8) m).length=m:=by simp [xG]
  have nd:=Of A B (c / 64) (1+c / 3 % 8) (by omega) hm.2;simp;exact k _ _ _ x1 (ai _) (by rw [lq]; exact hm) nd g1
noncomputable abbrev Cnt:=List (List Int×Nat)
noncomputable def aW (C:Cnt) (w:Nat):List Int:=(C.getD w ([],0)).1
noncomputable def bX (C:Cnt) (w:Nat):Nat:=(C.getD w ([],0)).2
noncomputable def tpw (C:Cnt) (w:Nat):Int:=(aW C w).getD w 0
structure sQ (hs:List Str) (C:Cnt) (c:List Int):Prop where
 len:c.length=hs.length
 nn:∀ w,0<=c.getD w 0
 le:∀ w,w < hs.length->c.getD w 0<=tpw C w
structure HI (hs:List Str) (C:Cnt) (R:List Row) (la lr:Nat) (h:PH):Prop where
 ga:h[la]?=some (.lst (C.map fun p=>PV.ref p.2))
 gc:∀ p∈C,h[p.2]?=some (.lst (p.1.map PV.int))
 len:C.length=hs.length
 ra:RAt h lr R
 ok:∀ z∈R,dA hs z
 inc:Inc R
 c1:∀ p∈C,sQ hs C p.1
 c2:∀ z∈R,sQ hs C z.c
 nd:(C.map (·.2)).Nodup
 s1:∀ p∈C,p.2≠la/\p.2≠lr
 s2:∀ z∈R,z.r≠la/\z.r≠lr/\∀ p∈C,z.r≠p.2
 s3:la≠lr
 ct:∀ w,w < hs.length->((R.filter fun z=>decide (z.d.nm.1=hs.getD w "")).length:Int)=tpw C w
theorem HI.ext {hs:List Str} {C:Cnt} {R:List Row} {la lr:Nat} {h h':PH} (i:HI hs C R la lr h) (x:Ext h h'):HI hs C R la lr h':=
 ⟨x _ _ i.ga,fun p hp=>x _ _ (i.gc p hp),i.len,i.ra.ext x,i.ok,i.inc,i.c1,i.c2,i.nd,i.s1,i.s2,i.s3,i.ct⟩
theorem HI.at {hs:List Str} {C:Cnt} {R:List Row} {la lr:Nat} {h:PH} (i:HI hs C R la lr h) {w:Nat} (hw:w < hs.length):C[w]?=some (aW C w,bX C w)/\(aW C w,bX C w)∈C/\h[bX C w]?=some (.lst ((aW C w).map PV.int))/\sQ hs C (aW C w):=by
 have hw':w < C.length:=by rw [i.len]; exact hw
 have e:C[w]?=some (aW C w,bX C w):=by
  unfold aW bX;simp [hw']
 have hm:=cy e;exact ⟨e,hm,i.gc _ hm,i.c1 _ hm⟩
theorem vN {C:Cnt} {w v:Nat} {c:List Int} {r:Nat} (hw:w < C.length):aW (C.set w (c,r)) v=if w=v then c else aW C v:=by
 unfold aW;rw [cU _ _ _ _ _ hw];split <;> rfl
theorem B9 {hs:List Str} {z:Row} (nd:hs.Nodup) (o:dA hs z) {w:Nat} (hw:w < hs.length) (e:z.d.nm.1=hs.getD w ""):z.d.nm.2=z.c.getD w 0:=by
 obtain ⟨v,c0,hv,lc,_,ec,en,_⟩:=o.ex;rw [en] at e ⊢;have e1:hs.getD v "" = hs[v]:=by simp [hv]
 have e2:hs.getD w "" = hs[w]:=by simp [hw]
 have e:hs.getD v "" = hs.getD w "" := e;rw [e1,e2] at e;have:v=w:=(List.getElem_inj nd).mp e;subst this;rw [ec,cU _ _ _ _ _ (by omega),if_pos rfl]
theorem HI.own {hs:List Str} (nd:hs.Nodup) {C:Cnt} {R:List Row} {la lr:Nat} {h:PH} (i:HI hs C R la lr h) {w:Nat} (hw:w < hs.length) {S:Seen} (so:cD hs (aW C w) S) (a:Ac) {h2:PH} (e2:h2=((h.set (bX C w) (.lst (((aW C w).set w (tpw C w+1)).map PV.int)))++[MO.lst (((aW C w).set w (tpw C w+1)).map PV.int)]).set lr (.lst ((R++[(⟨⟨(hs.getD w "",tpw C w+1),S,a⟩,(aW C w).set w (tpw C w+1),h.length⟩:Row)]).map rwV))):
  HI hs (C.set w ((aW C w).set w (tpw C w+1),bX C w)) (R++[⟨⟨(hs.getD w "",tpw C w+1),S,a⟩,(aW C w).set w (tpw C w+1),h.length⟩]) la lr h2:=by
 obtain ⟨eC,mC,gC,cC⟩:=i.at hw;have hwC:w < C.length:=by rw [i.len]; exact hw
 have lcw:w < (aW C w).length:=by rw [cC.len]; exact hw
 obtain ⟨s11,s12⟩:=i.s1 _ mC;have lref:bX C w < h.length:=(ab.mp gC).1;have llr:lr < h.length:=(ab.mp i.ra.1).1;have lla:la < h.length:=(ab.mp i.ga).1
 -- the heap
 have keep:∀ n o,n≠bX C w->n≠lr->h[n]?=some o->h2[n]?=some o:=fun n o h1 h3 ho=>by
  rw [e2,a8 (i8 h3)];exact Ext.app _ _ _ _ (by rw [a8 (i8 h1)]; exact ho)
 have gw:h2[bX C w]?=some (.lst (((aW C w).set w (tpw C w+1)).map PV.int)):=by
  rw [e2,a8 (i8 s12)];exact Ext.app _ _ _ _ (dU gC)
 have gn:h2[h.length]?=some (.lst (((aW C w).set w (tpw C w+1)).map PV.int)):=by
  rw [e2,a8 (by omega)];have:=aK (h:=h.set (bX C w) (.lst (((aW C w).set w (tpw C w+1)).map PV.int))) (o:=MO.lst (((aW C w).set w (tpw C w+1)).map PV.int));rw [de] at this;exact this
 have gr:h2[lr]?=some (.lst ((R++[(⟨⟨(hs.getD w "",tpw C w+1),S,a⟩,(aW C w).set w (tpw C w+1),h.length⟩:Row)]).map rwV)):=by
  rw [e2];exact dU (Ext.app _ _ _ _ (by rw [a8 s12]; exact i.ra.1))
 -- the tops
 have tops:∀ v,v < hs.length->tpw C v<=tpw (C.set w ((aW C w).set w (tpw C w+1),bX C w)) v/\(v≠w->tpw (C.set w ((aW C w).set w (tpw C w+1),bX C w)) v=tpw C v)/\tpw (C.set w ((aW C w).set w (tpw C w+1),bX C w)) w=tpw C w+1:=fun v hv=>by
  have t1:tpw (C.set w ((aW C w).set w (tpw C w+1),bX C w)) w=tpw C w+1:=by
   unfold tpw;rw [vN hwC,if_pos rfl,cU _ _ _ _ _ lcw,if_pos rfl]
  have t2:v≠w->tpw (C.set w ((aW C w).set w (tpw C w+1),bX C w)) v=tpw C v:=fun z=>by
   unfold tpw;rw [vN hwC,if_neg (i8 z)]
  refine ⟨?_,t2,t1⟩
  by_cases z:v=w
  ·subst z; rw [t1]; omega
  ·rw [t2 z]; exact jd _
 have up:∀ c,sQ hs C c->sQ hs (C.set w ((aW C w).set w (tpw C w+1),bX C w)) c:=fun c o=>⟨o.len,o.nn,fun v hv=>Int.le_trans (o.le v hv) (tops v hv).1⟩;have new:sQ hs (C.set w ((aW C w).set w (tpw C w+1),bX C w)) ((aW C w).set w (tpw C w+1)):=by
  have tn:=cC.nn w;have tn:0<=tpw C w:=tn;refine ⟨by rw [de]; exact cC.len,fun v=>?_,fun v hv=>?_⟩
  ·rw [cU _ _ _ _ _ lcw];split
   ·omega
   ·exact cC.nn v
  ·rw [cU _ _ _ _ _ lcw];split
   ·rename_i z;subst z;rw [(tops w hw).2.2]; exact jd _
   ·rename_i z;rw [(tops v hv).2.1 (i8 z)];exact cC.le v hv
 have memS:∀ p∈C.set w ((aW C w).set w (tpw C w+1),bX C w),(p=((aW C w).set w (tpw C w+1),bX C w))\/(p∈C/\p.2≠bX C w):=fun p hp=>by
  obtain ⟨j,hj,ej⟩:=List.getElem_of_mem hp;rw [de] at hj
  by_cases z:w=j
  ·subst z;rw [List.getElem_set_self] at ej;exact .inl ej.symm
  ·rw [List.getElem_set_ne z] at ej;refine .inr ⟨by rw [<- ej]; exact ee hj,fun y=>z ?_⟩;have h1:(C.map (·.2))[w]?=some (bX C w):=by rw [aj,eC]; rfl
   have h2:(C.map (·.2))[j]?=some (bX C w):=by rw [aj,fq hj,ej,<- y]; rfl
   exact L' i.nd h1 h2
 have refs:(C.set w ((aW C w).set w (tpw C w+1),bX C w)).map (·.2)=C.map (·.2):=by
  rw [List.map_set];apply e8;intro j
  by_cases z:w=j
  ·subst z;rw [fh (by rw [ae]; exact hwC),aj,eC];rfl
  ·rw [a8 z]
 have refs2:(C.set w ((aW C w).set w (tpw C w+1),bX C w)).map (fun p=>PV.ref p.2)=C.map fun p=>PV.ref p.2:=by
  have:=congrArg (List.map PV.ref) refs;rw [bq,bq] at this;exact this
 refine ⟨?_,fun p hp=>?_,by rw [de]; exact i.len,⟨gr,fun z hz=>?_⟩,fun z hz=>?_,?_,fun p hp=>?_,fun z hz=>?_,by rw [refs]; exact i.nd,fun p hp=>?_,fun z hz=>?_,i.s3,fun v hv=>?_⟩
 ·rw [refs2]; exact keep _ _ (i8 s11) i.s3 i.ga
 ·rcases memS p hp with rfl | ⟨h1,h3⟩
  ·exact gw
  ·exact keep _ _ h3 (i.s1 p h1).2 (i.gc p h1)
 ·rcases ba.mp hz with y | y
  ·exact keep _ _ ((i.s2 z y).2.2 _ mC) (i.s2 z y).2.1 (i.ra.2 z y)
  ·simp at y; subst y; exact gn
 ·rcases ba.mp hz with y | y
  ·exact i.ok z y
  ·simp at y;subst y;exact ⟨by show ((aW C w).set w (tpw C w+1)).length=_; rw [de]; exact cC.len,w,aW C w,hw,cC.len,cC.nn w,rfl,rfl,so⟩
 ·unfold Inc;rw [List.pairwise_append];refine ⟨i.inc,by simp,fun z hz y hy e=>?_⟩;simp at hy;subst hy;have:=B9 nd (i.ok z hz) hw e;have l1:=(i.c2 z hz).le w hw
  show z.d.nm.2 < tpw C w+1
  omega
 ·rcases memS p hp with rfl | ⟨h1,h3⟩
  ·exact new
  ·exact up _ (i.c1 p h1)
 ·rcases ba.mp hz with y | y
  ·exact up _ (i.c2 z y)
  ·simp at y; subst y; exact new
 ·rcases memS p hp with rfl | ⟨h1,h3⟩
  ·exact ⟨s11,s12⟩
  ·exact i.s1 p h1
 ·rcases ba.mp hz with y | y
  ·refine ⟨(i.s2 z y).1,(i.s2 z y).2.1,fun p hp=>?_⟩;rcases memS p hp with rfl | ⟨h1,h3⟩
   ·exact fun e=>(i.s2 z y).2.2 _ mC e
   ·exact (i.s2 z y).2.2 p h1
  ·simp at y;subst y;refine ⟨by show h.length≠la; omega,by show h.length≠lr; omega,fun p hp=>?_⟩;rcases memS p hp with rfl | ⟨h1,h3⟩
   ·show h.length≠bX C w; omega
   ·have:=(ab.mp (i.gc p h1)).1
    show h.length≠p.2
    omega
 ·rw [gv,c8];have i5:=i.ct v hv
  by_cases e:v=w
  ·subst e;rw [(tops v hv).2.2];simp;simp at i5;omega
  ·rw [(tops v hv).2.1 e];have e1:hs.getD v "" = hs[v]:=by simp [hv]
   have e2:hs.getD w "" = hs[w]:=by simp [hw]
   have ne:¬ hs.getD w "" = hs.getD v "" := fun q=>e (by rw [e1,e2] at q; exact ((List.getElem_inj nd).mp q).symm);have e3:([(⟨⟨(hs.getD w "",tpw C w+1),S,a⟩,(aW C w).set w (tpw C w+1),h.length⟩:Row)].filter fun z=>decide (z.d.nm.1=hs.getD v ""))=[]:=by
    rw [List.filter_eq_nil_iff];intro z hz;rw [bj] at hz;subst hz;simpa using ne
   rw [e3];simpa using i5
noncomputable def mxs (n:Nat) (c f:List Int):List Int:=(ax n).map fun k=>if f.getD k 0 > c.getD k 0 then f.getD k 0 else c.getD k 0
theorem vO (n:Nat) (c f:List Int) (w:Nat):(mxs n c f).getD w 0=if w < n then (if f.getD w 0 > c.getD w 0 then f.getD w 0 else c.getD w 0) else 0:=by
 unfold mxs
 by_cases h:w < n
 ·rw [if_pos h];simp [h]
 ·rw [if_neg h];simp [h]
theorem HI.met {hs:List Str} {C:Cnt} {R:List Row} {la lr:Nat} {h:PH} (i:HI hs C R la lr h) {w:Nat} (hw:w < hs.length) {f:List Int} (of:sQ hs C f) {r:Nat} (gr:h[r]?=some (.lst ((mxs hs.length (aW C w) f).map PV.int))) (fr:r≠la/\r≠lr/\(∀ p∈C,r≠p.2)/\∀ z∈R,z.r≠r):
  HI hs (C.set w (mxs hs.length (aW C w) f,r)) R la lr (h.set la (.lst ((C.map fun p=>PV.ref p.2).set w (.ref r)))):=by
 obtain ⟨eC,mC,gC,cC⟩:=i.at hw;have hwC:w < C.length:=by rw [i.len]; exact hw
 have keep:∀ n o,n≠la->h[n]?=some o->(h.set la (.lst ((C.map fun p=>PV.ref p.2).set w (.ref r))))[n]?=some o:=fun n o h1 ho=>by
  rw [a8 (i8 h1)]; exact ho
 have tops:∀ v,v < hs.length->tpw (C.set w (mxs hs.length (aW C w) f,r)) v=tpw C v:=fun v hv=>by
  unfold tpw;rw [vN hwC];split
  ·rename_i z;subst z;rw [vO,if_pos hv];have:=of.le w hv;have:f.getD w 0<=(aW C w).getD w 0:=this;rw [if_neg (by omega)]
  ·rfl
 have up:∀ c,sQ hs C c->sQ hs (C.set w (mxs hs.length (aW C w) f,r)) c:=fun c o=>⟨o.len,o.nn,fun v hv=>by rw [tops v hv]; exact o.le v hv⟩;have new:sQ hs (C.set w (mxs hs.length (aW C w) f,r)) (mxs hs.length (aW C w) f):=by
  refine ⟨by unfold mxs; simp,fun v=>?_,fun v hv=>?_⟩
  ·rw [vO];have:=cC.nn v;have:=of.nn v;split
   ·split <;> omega
   ·exact jd _
  ·rw [tops v hv,vO,if_pos hv];have:=cC.le v hv;have:=of.le v hv;split <;> omega
 have memS:∀ p∈C.set w (mxs hs.length (aW C w) f,r),(p=(mxs hs.length (aW C w) f,r))\/p∈C:=fun p hp=>by
  rcases List.mem_or_eq_of_mem_set hp with z | z
  ·exact .inr z
  ·exact .inl z
 refine ⟨?_,fun p hp=>?_,by rw [de]; exact i.len,⟨keep _ _ (i8 i.s3) i.ra.1,fun z hz=>keep _ _ (i.s2 z hz).1 (i.ra.2 z hz)⟩,i.ok,i.inc,fun p hp=>?_,fun z hz=>up _ (i.c2 z hz),?_,fun p hp=>?_,fun z hz=>⟨(i.s2 z hz).1,(i.s2 z hz).2.1,fun p hp=>?_⟩,i.s3,fun v hv=>by rw [tops v hv]; exact i.ct v hv⟩
 ·rw [dU i.ga,List.map_set]
 ·rcases memS p hp with rfl | z
  ·exact keep _ _ fr.1 gr
  ·exact keep _ _ (i.s1 p z).1 (i.gc p z)
 ·rcases memS p hp with rfl | z
  ·exact new
  ·exact up _ (i.c1 p z)
 ·rw [List.map_set];refine d5.mpr fun a b ha hb hab=>?_;rw [de,ae] at ha hb;have pw:=d5.mp i.nd;have hr:∀ (j:Nat) (hj:j < (C.map (·.2)).length),(C.map (·.2))[j]≠r:=fun j hj e=>by
   rw [ae] at hj;rw [List.getElem_map] at e;exact fr.2.2.1 _ (ee hj) e.symm
  rw [List.getElem_set,List.getElem_set];split
  ·split
   ·omega
   ·exact fun e=>hr b (by rw [ae]; exact hb) e.symm
  ·split
   ·exact fun e=>hr a (by rw [ae]; exact ha) e
   ·exact pw a b (by rw [ae]; exact ha) (by rw [ae]; exact hb) hab
 ·rcases memS p hp with rfl | z
  ·exact ⟨fr.1,fr.2.1⟩
  ·exact i.s1 p z
 ·rcases memS p hp with rfl | y
  ·exact fr.2.2.2 z hz
  ·exact (i.s2 z hz).2.2 p y
theorem Vj {h:PH} {a b:Nat} {R:List Row} (g1:h[a]?=some (.lst (R.map rwV))) (g2:h[b]?=some (.lst [])):NV (.ref a) (.ref b) h=.ok (.bl (!decide (R=[]))) h:=by
 unfold NV eqF;cases R with
 | nil=>rw [Ca g1 g2 rfl rfl]; rfl
 | cons z R=>
  have q1:cY (.ref a) h=some ((z :: R).map rwV):=by simp [cY,aP,g1]
  have q2:cY (.ref b) h=some []:=by simp [cY,aP,g2]
  have q3:PV.ds ((z :: R).map rwV)=none:=by simp [PV.ds,rwV,PV.d,deV,pv]
  have n2:iU (.ref a) (.ref b) h=none:=by
   unfold iU;simp only [PV.d,q1,q2,q3]
  rw [n2];simp only [q1,q2];rfl
structure HT (hs:List Str) (h:PH) (la lr:Nat) (q:Nat) (C:Cnt) (R:List Row) (h':PH):Prop where
 x:Ext h h'
 i:HI hs C R la lr h'
 l:R.length<=q
 b:h.length<=la/\h.length<=lr/\∀ p∈C,h.length<=p.2
theorem HT.ext {hs:List Str} {h:PH} {la lr q:Nat} {C:Cnt} {R:List Row} {h' h2:PH} (t:HT hs h la lr q C R h') (x:Ext h' h2):HT hs h la lr q C R h2:=⟨t.x.trans x,t.i.ext x,t.l,t.b⟩
theorem Rc {hs:List Str} (h6:hs.length<=6) {h h':PH} {la lr lh q:Nat} {C:Cnt} {R:List Row} (t:HT hs h la lr q C R h') (gh:h'[lh]?=some (.lst (hs.map PV.str))) {w:Nat} (hw:w < hs.length) {f:List Int} {rf:Nat} (of:sQ hs C f) (gf:h'[rf]?=some (.lst (f.map PV.int))) (x0 x3 x4 x7 x8 x9 x10 x12:Option PV) (E:FE)
  (fin:∀ C' h2,HT hs h la lr (q+1) C' R h2->E.nx [x0,some (.ref lh),some (.ref la),x3,x4,some (.int (w:Int)),some (.ref (bX C w)),x7,x8,x9,x10,some (.ref rf),x12] h2):
  Lt (jK (bE [none,some 6,some 11] (jG (aC (mCB dM (aC (mV 1) aJ)) aJ)) (gN 0) dS (mCB oG (aC (aE vAt (mV 1) (mV 0)) (aC (aE vAt (mV 2) (mV 0)) aJ)))) (mV 2) (mV 5)) E [x0,some (.ref lh),some (.ref la),x3,x4,some (.int (w:Int)),some (.ref (bX C w)),x7,x8,x9,x10,some (.ref rf),x12] h':=by
 refine now ?_;obtain ⟨eC,mC,gC,cC⟩:=t.i.at hw;have hlv:=cZ gh;rw [ae] at hlv;have hc:=uJ (js:=[none,some 6,some 11]) (tg:=gN 0) (tst:=dS) (elt:=mCB oG (aC (aE vAt (mV 1) (mV 0)) (aC (aE vAt (mV 2) (mV 0)) aJ))) (δ:=[x0,some (.ref lh),some (.ref la),x3,x4,some (.int (w:Int)),some (.ref (bX C w)),x7,x8,x9,x10,some (.ref rf),x12]) (h:=h') (h1:=h') (ms:=aC (mCB dM (aC (mV 1) aJ)) aJ) (j:=(hs.length:Int))
  (fun k=>some (.int (if f.getD k 0 > (aW C w).getD k 0 then f.getD k 0 else (aW C w).getD k 0))) (by simp [hlv]) (by omega) (fun k hk=>⟨[some (.int (k:Int)),some (.ref (bX C w)),some (.ref rf)],by simp [cB],fun h2 x2=>by
   have hk':k < hs.length:=by omega
   have e1:atI ((aW C w).map PV.int) (k:Int)=some (.int ((aW C w).getD k 0)):=dQ (by rw [aj]; simp [cC.len,hk']);have e2:atI (f.map PV.int) (k:Int)=some (.int (f.getD k 0)):=dQ (by rw [aj]; simp [of.len,hk']);have v1:vIx (.ref (bX C w)) (.int (k:Int)) h2=.ok (.int ((aW C w).getD k 0)) h2:=by rw [cW (x2 _ _ gC),e1]; rfl
   have v2:vIx (.ref rf) (.int (k:Int)) h2=.ok (.int (f.getD k 0)) h2:=by rw [cW (x2 _ _ gf),e2]; rfl
   generalize (aW C w).getD k 0=u1 at v1;generalize f.getD k 0=u2 at v2;refine ⟨rfl,?_⟩;simp [v1,v2]⟩)
 have em:(ax ((hs.length:Int)).toNat).filterMap (fun k=>some (PV.int (if f.getD k 0 > (aW C w).getD k 0 then f.getD k 0 else (aW C w).getD k 0)))=(mxs hs.length (aW C w) f).map PV.int:=by
  rw [ic];unfold mxs;rw [bq,filterMap_some];rfl
 rw [em] at hc;have gN':(h'++[MO.lst ((mxs hs.length (aW C w) f).map PV.int)])[h'.length]?=some (.lst ((mxs hs.length (aW C w) f).map PV.int)):=aK;have xN:Ext h' (h'++[MO.lst ((mxs hs.length (aW C w) f).map PV.int)]):=Ext.app _ _;have t1:=t.ext xN;have lC:∀ p∈C,p.2 < h'.length:=fun p hp=>(ab.mp (t.i.gc p hp)).1;have lR:∀ z∈R,z.r < h'.length:=fun z hz=>(ab.mp (t.i.ra.2 z hz)).1;have l1:la < h'.length:=(ab.mp t.i.ga).1;have l2:lr < h'.length:=(ab.mp t.i.ra.1).1;have i2:=t1.i.met hw of gN' ⟨by omega,by omega,fun p hp=>by have:=lC p hp; omega,fun z hz=>by have:=lR z hz; omega⟩;generalize h'++[MO.lst ((mxs hs.length (aW C w) f).map PV.int)]=hA at hc gN' xN t1 i2;have pu:=zG (v:=.ref h'.length) (i:=(w:Int)) t1.i.ga (by omega) (by rw [ae,t.i.len]; omega);rw [ic] at pu;simp [hc,pu];refine fin _ _ ⟨t1.x.setN t.b.1,i2,by have:=t.l; omega,t.b.1,t.b.2.1,fun p hp=>?_⟩;rcases List.mem_or_eq_of_mem_set hp with z | z
 ·exact t.b.2.2 p z
 ·rw [z]; exact t.x.len
theorem Re {hs:List Str} (nd:hs.Nodup) (h6:hs.length<=6) {h h':PH} {la lr lh q:Nat} {C:Cnt} {R:List Row} (t:HT hs h la lr q C R h') (hq:q<=1000) (gh:h'[lh]?=some (.lst (hs.map PV.str))) {w:Nat} (hw:w < hs.length) (c way:Int) (x0 x8 x9 x10 x11 x12:Option PV) (E:FE)
  (fin:∀ C' R' h2 y8 y9,HT hs h la lr (q+1) C' R' h2->E.nx [x0,some (.ref lh),some (.ref la),some (.ref lr),some (.int c),some (.int (w:Int)),some (.ref (bX C w)),some (.int way),y8,y9,x10,x11,x12] h2):
  (aX (bM 8 (fE (aC (aE vAt (mV 1) (mV 5)) (aC (aE bF (aE vAt (mV 6) (mV 5)) (mC (.int 1))) aJ))))
   (aX (bM 9 (fE (aC (mV 8) (aC (bL 2 mM (aC (mV 1) (aC (mV 6) aJ))) (aC (bL 3 Cv (aC (mV 7) (aC (aE vAt (mV 6) (mV 5)) (aC (aE mB (mV 4) (mC (.int 32))) aJ)))) aJ)))))
   (aX (jK (aE bF (aE vAt (mV 6) (mV 5)) (mC (.int 1))) (mV 6) (mV 5))
   (Ei (mMt isL (onL eX) (mV 3) (aC (fE (aC (mV 9) (aC (mCB yT (aC (mV 6) aJ)) aJ))) aJ))))) [x0,some (.ref lh),some (.ref la),some (.ref lr),some (.int c),some (.int (w:Int)),some (.ref (bX C w)),some (.int way),x8,x9,x10,x11,x12] h').W E:=by
 obtain ⟨eC,mC,gC,cC⟩:=t.i.at hw;have e1:atI ((aW C w).map PV.int) (w:Int)=some (.int (tpw C w)):=dQ (by rw [aj]; unfold tpw; simp [cC.len,hw]);have e2:atI (hs.map PV.str) (w:Int)=some (.str (hs.getD w "")):=dQ (by rw [aj]; simp [hw]);have vc:∀ h2,Ext h' h2->vIx (.ref (bX C w)) (.int (w:Int)) h2=.ok (.int (tpw C w)) h2:=fun h2 x2=>by rw [cW (x2 _ _ gC),e1]; rfl
 have vh:vIx (.ref lh) (.int (w:Int)) h'=.ok (.str (hs.getD w "")) h':=by rw [cW gh,e2]; rfl
 rw [aM];have vc0:=vc h' (Ext.refl _);obtain ⟨hd,ehd⟩:∃ hd,hs.getD w "" = hd:=⟨_,rfl⟩;rw [ehd] at vh;simp [vh,vc0];refine now ?_;rw [aM];simp;refine B3 nd h6 cC.len gh gC _ fun S h1 x1 so=>?_;have vc1:=vc h1 x1;simp (disch:=omega) [vc1];refine Rb way (tpw C w) (c / 32) h1 _ fun a=>?_;have t1:=t.ext x1;obtain ⟨tp,etp⟩:∃ tp,tpw C w=tp:=⟨_,rfl⟩;have own:=t1.i.own nd hw so a (h2:=_) rfl;rw [ehd,etp] at own;rw [etp] at vc1;rw [etp];have gC1:=x1 _ _ gC;have lw:w < ((aW C w).map PV.int).length:=by rw [ae,cC.len]; exact hw
 have pu:=zG (v:=.int (tp+1)) (i:=(w:Int)) gC1 (by omega) (by omega);rw [ic,<- List.map_set] at pu;have gS:(h1.set (bX C w) (.lst (((aW C w).set w (tp+1)).map PV.int)))[bX C w]?=some (.lst (((aW C w).set w (tp+1)).map PV.int)):=dU gC1;have s12:=(t1.i.s1 _ mC).2;have gR:(h1.set (bX C w) (.lst (((aW C w).set w (tp+1)).map PV.int)))[lr]?=some (.lst (R.map rwV)):=by rw [a8 s12]; exact t1.i.ra.1
 have vl:=L9 gS;have gR2:=Ext.app (h1.set (bX C w) (.lst (((aW C w).set w (tp+1)).map PV.int))) [MO.lst (((aW C w).set w (tp+1)).map PV.int)] _ _ gR;have ap:=iX (p:=rwV ⟨⟨(hd,tp+1),S,a⟩,(aW C w).set w (tp+1),h1.length⟩) gR2 (by have:=t.l; rw [ae]; omega);rw [de] at vl;have ap':onL eX (.ref lr) [.tup [.tup [.tup [.str hd,.int (tp+1)],sv S,acV a],.ref h1.length]] (h1.set (bX C w) (.lst (((aW C w).set w (tp+1)).map PV.int))++[MO.lst (((aW C w).set w (tp+1)).map PV.int)])=_:=ap;rw [cj] at own;have xS:Ext h h1:=t1.x;have hx:Ext h ((h1.set (bX C w) (.lst (((aW C w).set w (tp+1)).map PV.int))++[MO.lst (((aW C w).set w (tp+1)).map PV.int)]).set lr (.lst (R.map rwV++[rwV ⟨⟨(hd,tp+1),S,a⟩,(aW C w).set w (tp+1),h1.length⟩]))):=((xS.setN (t.b.2.2 _ mC)).trans (Ext.app _ _)).setN t.b.2.1;have il:=sU gR;generalize h1.set (bX C w) (.lst (((aW C w).set w (tp+1)).map PV.int))=h2 at vl ap' own hx il pu;generalize h2++[MO.lst (((aW C w).set w (tp+1)).map PV.int)]=h3 at vl ap' own hx;refine now ?_;rw [aM];simp [vc1,pu];refine now ?_;simp [il,vl,ap'];refine fin _ _ _ _ _ ⟨hx,own,by rw [c8]; have:=t.l; simp; omega,t.b.1,t.b.2.1,fun p hp=>?_⟩;rcases List.mem_or_eq_of_mem_set hp with z | z
 ·exact t.b.2.2 p z
 ·rw [z];have:=t.b.2.2 _ mC;exact this
theorem pick {α:Type} {xs:List α} {e:α->PV} {n:Nat} (hn:xs.length=n) (h0:0 < n) (i:Int):∃ x∈xs,atI (xs.map e) (i % (n:Int))=some (e x):=by
 obtain ⟨one,e1,hmem⟩:=NJ (xs:=xs.map e) (i:=i) (by intro z; rw [List.map_eq_nil_iff] at z; rw [z] at hn; simp at hn; omega);obtain ⟨p,hp,rfl⟩:=az.mp hmem;rw [ae,hn] at e1;exact ⟨p,hp,e1⟩
theorem TV (c:Int) {n:Nat} (h:0 < n):∃ w:Nat,c % (n:Int)=w/\w < n:=by
 have h1:=gj c (b:=(n:Int)) (by omega);have h2:=gq c (b:=(n:Int)) (by omega);exact ⟨(c % (n:Int)).toNat,by omega,by omega⟩
theorem B' (x:Str):∀ R:List Row,R.filterMap (fun z=>if z.d.nm.1=x then some (rwV z) else none)=(R.filter fun z=>decide (z.d.nm.1=x)).map rwV
 | []=>rfl
 | y :: rs=>by
  rw [dg,iu]
  by_cases e:y.d.nm.1=x
  ·simp [e,B' x rs]
  ·simp [e,B' x rs]
theorem Og {hs:List Str} (nd:hs.Nodup) (h0:hs≠[]) (h6:hs.length<=6) {h h':PH} {la lr lh q:Nat} {C:Cnt} {R:List Row} (t:HT hs h la lr q C R h') (hq:q<=1000) (gh:h[lh]?=some (.lst (hs.map PV.str))) (c:Int) (x0 x5 x6 x7 x8 x9 x10 x11 x12:Option PV) (E:FE)
  (fin:∀ C' R' h2 y5 y6 y7 y8 y9 y10 y11 y12,HT hs h la lr (q+1) C' R' h2->E.nx [x0,some (.ref lh),some (.ref la),some (.ref lr),some (.int c),y5,y6,y7,y8,y9,y10,y11,y12] h2):
  (kA [x0,some (.ref lh),some (.ref la),some (.ref lr),some (.int c),x5,x6,x7,x8,x9,x10,x11,x12] h').W E:=by
 unfold kA;have hpos:0 < hs.length:=jv.mpr h0;have ghh:=t.x _ _ gh;have hlv:∀ h2,Ext h' h2->dM [.ref lh] h2=.ok (.int (hs.length:Int)) h2:=fun h2 x2=>by
  have:=cZ (x2 _ _ ghh);rw [ae] at this;exact this
 have hl0:=hlv h' (Ext.refl _);obtain ⟨w,ew,hw⟩:=TV c hpos;have va:∀ h2,Ext h' h2->∀ v:Nat,v < hs.length->vIx (.ref la) (.int (v:Int)) h2=.ok (.ref (bX C v)) h2:=fun h2 x2 v hv=>by
  rw [cW (x2 _ _ t.i.ga),show atI (C.map fun p=>PV.ref p.2) (v:Int)=some (.ref (bX C v)) from dQ (by rw [aj,(t.i.at hv).1]; rfl)]
  rfl
 have va0:=va h' (Ext.refl _) w hw;rw [aM];simp (disch:=omega) [hl0,ew];refine now ?_;rw [aM];simp [va0];refine now ?_;rw [aM];simp (disch:=omega) [hl0];generalize c / (hs.length:Int) % 8=way;refine now ?_;rw [yU]
 by_cases e5:way < 5
 ·simp [e5];exact Re nd h6 t hq ghh hw c way x0 x8 x9 x10 x11 x12 _ fun C' R' h2 y8 y9 z=>fin C' R' h2 _ _ _ _ _ _ _ _ z
 ·simp [e5];rw [aM];obtain ⟨m,em,hm⟩:∃ m:Int,(if (hs.length:Int) - 1 > 1 then (hs.length:Int) - 1 else 1)=m/\0 < m:=⟨_,rfl,by split <;> omega⟩;obtain ⟨v,ev,hv⟩:=TV ((w:Int)+1+c / 32 % m) hpos;have em':(if 1 < (hs.length:Int) - 1 then (hs.length:Int) - 1 else 1)=m:=em;simp (disch:=omega) [hl0,em',ev];refine now ?_;rw [aM];have va1:=va h' (Ext.refl _) v hv;simp [va1];refine now ?_;rw [aM];have vh:∀ h2,Ext h' h2->vIx (.ref lh) (.int (v:Int)) h2=.ok (.str (hs.getD v "")) h2:=fun h2 x2=>by
   rw [cW (x2 _ _ ghh),show atI (hs.map PV.str) (v:Int)=some (.str (hs.getD v "")) from dQ (by rw [aj]; simp [hv])]
   rfl
  generalize hs.getD v "" = hd at vh;have hc:=dX (m:=mV 3) (n:=lr) (js:=[none,some 1,some 10]) (tg:=gN 0) (tst:=bZ (aE vEq (aE vAt (aE vAt (aE vAt (mV 0) (mC (.int 0))) (mC (.int 0))) (mC (.int 0))) (aE vAt (mV 1) (mV 2)))) (elt:=mV 0) (δ:=[x0,some (.ref lh),some (.ref la),some (.ref lr),some (.int c),some (.int (w:Int)),some (.ref (bX C w)),some (.int way),x8,x9,some (.int (v:Int)),some (.ref (bX C v)),x12]) (h:=h') (h1:=h') (ys:=R) (emb:=rwV)
   (fun z=>if z.d.nm.1=hd then some (rwV z) else none) (by simp) t.i.ra.1 (by have:=t.l; omega) (fun z _=>⟨[some (rwV z),some (.ref lh),some (.int (v:Int))],by simp [cB],fun h2 x2=>by
    have r0:vIx (rwV z) (.int 0) h2=.ok (deV z.d) h2:=by unfold rwV; simp
    by_cases e:z.d.nm.1=hd
    ·simp [r0,de0,pv0,vh h2 x2,e]
    ·simp [r0,de0,pv0,vh h2 x2,e]⟩)
  rw [B' hd R] at hc;have memF:∀ z∈R.filter fun z=>decide (z.d.nm.1=hd),z∈R:=fun z hz=>(fi.mp hz).1;generalize (R.filter fun z=>decide (z.d.nm.1=hd))=F at hc memF;have x1:Ext h' (h'++[MO.lst (F.map rwV)]):=Ext.app _ _;have g1:(h'++[MO.lst (F.map rwV)])[h'.length]?=some (.lst (F.map rwV)):=aK;simp only [lQ,hc,dN,i6,i7];generalize h'++[MO.lst (F.map rwV)]=hA at hc x1 g1;generalize h'.length=lf at hc g1;clear hc;have tA:=t.ext x1;refine now ?_;rw [aM,yU];have nx:∀ (h2:PH),Ext hA h2->∀ (f:List Int) (rf:Nat),sQ hs C f->h2[rf]?=some (.lst (f.map PV.int))->Lt (jK (bE [none,some 6,some 11] (jG (aC (mCB dM (aC (mV 1) aJ)) aJ)) (gN 0) dS (mCB oG (aC (aE vAt (mV 1) (mV 0)) (aC (aE vAt (mV 2) (mV 0)) aJ)))) (mV 2) (mV 5)) E [x0,some (.ref lh),some (.ref la),some (.ref lr),some (.int c),some (.int (w:Int)),some (.ref (bX C w)),some (.int way),x8,x9,some (.int (v:Int)),some (.ref rf),some (.ref lf)] h2:=fun h2 x2 f rf of gf=>
   Rc h6 (tA.ext x2) (x2 _ _ (x1 _ _ ghh)) hw of gf _ _ _ _ _ _ _ _ E fun C' h3 z=>fin C' R h3 _ _ _ _ _ _ _ _ z
  by_cases e7:way < 7
  ·have vn:=Vj (Ext.app hA [MO.lst []] _ _ g1) (aK (h:=hA) (o:=MO.lst []));have xB:Ext hA (hA++[MO.lst []]):=Ext.app _ _;have gB:=xB _ _ g1
   by_cases eF:F=[]
   ·subst eF;simp [e7,vn];exact nx _ xB _ _ (t.i.at hv).2.2.2 (xB _ _ (x1 _ _ (t.i.at hv).2.2.1))
   ·rw [decide_eq_false eF] at vn;have hF:0 < F.length:=jv.mpr eF;obtain ⟨z,hz,ez⟩:=pick (e:=rwV) (n:=F.length) rfl hF (c / 64);have hl:=cZ gB;rw [ae] at hl;have vz:vIx (.ref lf) (.int (c / 64 % (F.length:Int))) (hA++[MO.lst []])=.ok (rwV z) (hA++[MO.lst []]):=by rw [cW gB,ez]; rfl
    have r1:∀ hB,vIx (rwV z) (.int 1) hB=.ok (.ref z.r) hB:=fun hB=>by unfold rwV; simp
    simp (disch:=omega) [e7,vn,hl,vz,r1];have hzR:=memF z hz;exact nx _ xB _ _ (t.i.c2 z hzR) (xB _ _ (x1 _ _ (t.i.ra.2 z hzR)))
  ·simp [e7];exact nx _ (Ext.refl _) _ _ (t.i.at hv).2.2.2 (x1 _ _ (t.i.at hv).2.2.1)
theorem Oh {δ:Ev} {h h1:PH} {js:List (Option Nat)} {tg:Mg} {elt:Me} {g:PH->Bool} {α:Type} {mi:Mi} {ys:List α} {emb:α->PV} {Q:PV->PH->Prop} (G:α->MO) (e:mi δ h=.ok ⟨ys.map emb,g⟩ h1) (hg:∀ h,Ext h1 h->g h=true) (hz:ys.length<=16777216)
  (step:∀ y∈ys,∃ δ1,tg (emb y) (cB js δ)=some δ1/\∀ h,Ext h1 h->∃ n h',elt δ1 h=.ok (.ref n) h'/\Ext h h'/\h.length<=n/\h'[n]?=some (G y))
  (k:∀ l h' (zs:List (α×Nat)),Ext h1 h'->h1.length<=l->zs.map (·.1)=ys->(zs.map (·.2)).Nodup->h'[l]?=some (.lst (zs.map fun z=>PV.ref z.2))->(∀ z∈zs,l < z.2/\h'[z.2]?=some (G z.1))->Q (.ref l) h'):(bE js mi tg dS elt δ h).W Q:=by
 unfold bE;rw [e,Rs.bind_ok];refine nW (fun i h'=>Ext h1 h'/\∃ zs:List (α×Nat),zs.map (·.1)=ys.take i/\(zs.map (·.2)).Nodup/\h'[h1.length]?=some (.lst (zs.map fun z=>PV.ref z.2))/\∀ z∈zs,h1.length < z.2/\h'[z.2]?=some (G z.1)) (ys.map emb) 0 _ ⟨Ext.app _ _,[],by simp,by simp,by simp,fun z hz=>by simp at hz⟩ (fun i x h' _ hx hi=>?_) (fun h' hi=>?_)
 ·obtain ⟨x1,zs,ez,nd,g1,oz⟩:=hi;have hx:(ys.map emb)[i]?=some x:=by simpa using hx
  rw [aj] at hx;obtain ⟨y,hy,rfl⟩:=bf.mp hx;have hil:=(ab.mp hy).1;obtain ⟨δ1,ht,hs⟩:=step y (cy hy);have htk:ys.take (i+1)=ys.take i++[y]:=by rw [ig,hy]; rfl
  refine ⟨hg _ x1,δ1,ht,?_⟩;have hY:dS δ1 h'=.ok true h':=rfl;rw [hY,dN,if_pos rfl];obtain ⟨n,h2,e2,x2,ln,gn⟩:=hs h' x1;have lz:zs.length<=i:=by
   have:=congrArg List.length ez;rw [ae,d9] at this;omega
  have l1:h1.length < h'.length:=(ab.mp g1).1;rw [e2,dN];refine ⟨_,x2 _ _ g1,by rw [ae]; omega,(x1.trans x2).setN (ai _),zs++[(y,n)],by rw [cj,ez,htk]; rfl,?_,by rw [dU (x2 _ _ g1),cj]; rfl,fun z hz=>?_⟩
  ·rw [cj,ie];refine ⟨nd,by simp,fun a ha b hb=>?_⟩;obtain ⟨z,hz,rfl⟩:=az.mp ha;simp at hb;subst hb;have:=(ab.mp (oz z hz).2).1;omega
  ·rcases ba.mp hz with q | q
   ·obtain ⟨a,b⟩:=oz z q;exact ⟨a,by rw [a8 (by omega)]; exact x2 _ _ b⟩
   ·simp at q;subst q;exact ⟨by omega,by rw [a8 (by omega)]; exact gn⟩
 ·obtain ⟨x1,zs,ez,nd,g1,oz⟩:=hi;rw [Nat.zero_add,ae,jw] at ez;exact ⟨hg _ x1,k _ _ zs x1 (ai _) ez nd g1 oz⟩
theorem EE {hs:List Str} (nd:hs.Nodup) (h0:hs≠[]) (h6:hs.length<=6) {cs:List Int} (lc:cs.length<=40) {ls lh:Nat} {h:PH} (gs:h[ls]?=some (.lst (cs.map PV.int))) (gh:h[lh]?=some (.lst (hs.map PV.str))) (Q:PV->PH->Prop) (k:∀ C R la lr l' h',Ext h h'->HI hs C R la lr h'->R.length<=cs.length->h'[l']?=some (.lst ((R.map (·.d)).map deV))->Q (.ref l') h'):(kT [.ref ls,.ref lh] h).W Q:=by
 refine fG ?_;unfold qI;rw [aM,show List.map some [PV.ref ls,PV.ref lh]++c4 (13 - [PV.ref ls,PV.ref lh].length) none=[some (.ref ls),some (.ref lh),none,none,none,none,none,none,none,none,none,none,none] from rfl]
 simp only [lQ];refine Oh (h1:=h) (ys:=hs) (emb:=PV.str) (g:=lM lh (hs.map PV.str)) (fun _=>.lst ((c4 hs.length (0:Int)).map PV.int)) (dW (by simp) gh) (cR gh) (by omega) (fun y _=>⟨[some (.str y),some (.ref lh)],by simp [cB],fun h2 x2=>?_⟩) fun la hA zs xA bA ez ndz gA oz=>?_
 ·have hc:=dX (m:=mV 1) (n:=lh) (js:=[none]) (tg:=gN 0) (tst:=dS) (elt:=mC (.int 0)) (δ:=[some (.str y),some (.ref lh)]) (h:=h2) (h1:=h2) (ys:=hs) (emb:=PV.str)
   (fun _=>some (.int 0)) (by simp) (x2 _ _ gh) (by omega) (fun z _=>⟨[some (.str z)],by simp [cB],fun h' _=>⟨rfl,by simp⟩⟩)
  have em:hs.filterMap (fun _=>some (PV.int 0))=(c4 hs.length (0:Int)).map PV.int:=by
   rw [filterMap_some (fun _=>PV.int 0) hs,List.map_const',List.map_replicate]
  rw [em] at hc;exact ⟨_,_,hc,Ext.app _ _,ai _,aK⟩
 simp only [i6,i7];refine now ?_;rw [aM];simp;have xB:Ext hA (hA++[MO.lst []]):=Ext.app _ _;have gB:(hA++[MO.lst []])[hA.length]?=some (.lst (([]:List Row).map rwV)):=aK;have lz:zs.length=hs.length:=by rw [<- ez,ae]
 have lA:la < hA.length:=(ab.mp gA).1;have lref:∀ z∈zs,z.2 < hA.length:=fun z hz=>(ab.mp (oz z hz).2).1;have zr:∀ w,(c4 hs.length (0:Int)).getD w 0=0:=fun w=>by
  by_cases hw:w < hs.length
  ·simp [hw]
  ·simp [hw]
 have tp:∀ w,tpw (zs.map fun z=>(c4 hs.length (0:Int),z.2)) w=0:=fun w=>by
  unfold tpw aW
  by_cases hw:w < zs.length
  ·have:(zs.map fun z=>(c4 hs.length (0:Int),z.2)).getD w ([],0)=(c4 hs.length (0:Int),(zs[w]).2):=by simp [hw]
   rw [this];exact zr w
  ·have:(zs.map fun z=>(c4 hs.length (0:Int),z.2)).getD w ([],0)=([],0):=by simp [hw]
   rw [this];rfl
 have i0:HT hs h la hA.length 0 (zs.map fun z=>(c4 hs.length (0:Int),z.2)) [] (hA++[MO.lst []]):=by
  refine ⟨xA.trans xB,⟨?_,fun p hp=>?_,by rw [ae]; exact lz,⟨gB,fun z hz=>by simp at hz⟩,fun z hz=>by simp at hz,l8,fun p hp=>?_,fun z hz=>by simp at hz,?_,fun p hp=>?_,fun z hz=>by simp at hz,by omega,fun w hw=>by rw [tp w]; rfl⟩,by simp,bA,xA.len,fun p hp=>?_⟩
  ·rw [bq]; exact xB _ _ gA
  ·obtain ⟨z,hz,rfl⟩:=az.mp hp;exact xB _ _ (oz z hz).2
  ·obtain ⟨z,hz,rfl⟩:=az.mp hp;exact ⟨by simp,fun w=>by rw [zr w]; exact jd _,fun w _=>by rw [zr w,tp w]; exact jd _⟩
  ·rw [bq]; exact ndz
  ·obtain ⟨z,hz,rfl⟩:=az.mp hp;have h1:=(oz z hz).1;have h2:=lref z hz;exact ⟨by show z.2≠la; omega,by show z.2≠hA.length; omega⟩
  ·obtain ⟨z,hz,rfl⟩:=az.mp hp;have h1:=(oz z hz).1
   show h.length<=z.2
   omega
 generalize (zs.map fun z=>(c4 hs.length (0:Int),z.2))=C0 at i0;generalize hA++[MO.lst []]=hB at i0;generalize hA.length=lr at i0;refine now ?_;rw [aM];refine AE (n:=ls) (xs:=cs.map PV.int) (h1:=hB) (fun q δ h'=>(∃ C R,HT hs h la lr q C R h')/\∃ x4 x5 x6 x7 x8 x9 x10 x11 x12,δ=[some (.ref ls),some (.ref lh),some (.ref la),some (.ref lr),x4,x5,x6,x7,x8,x9,x10,x11,x12]) (by simp) (i0.x _ _ gs) ⟨⟨_,_,i0⟩,_,_,_,_,_,_,_,_,_,rfl⟩ ?_ ?_ ?_
 ·rintro q δ h' _ ⟨⟨C,R,t⟩,_⟩;exact t.x _ _ gs
 ·rintro q y δ h' hy ⟨⟨C,R,t⟩,x4,x5,x6,x7,x8,x9,x10,x11,x12,rfl⟩;have hq:=(ab.mp hy).1;rw [ae] at hq;rw [aj] at hy;obtain ⟨c,hc,rfl⟩:=bf.mp hy;exact ⟨_,rfl,Og nd h0 h6 t (by omega) gh c _ _ _ _ _ _ _ _ _ _ fun C' R' h2 y5 y6 y7 y8 y9 y10 y11 y12 z=>⟨⟨C',R',z⟩,_,_,_,_,_,_,_,_,_,rfl⟩⟩
 ·rintro δ h' ⟨⟨C,R,t⟩,x4,x5,x6,x7,x8,x9,x10,x11,x12,rfl⟩;refine now ?_;have hc:=dX (m:=mV 3) (n:=lr) (js:=[none]) (tg:=gN 0) (tst:=dS) (elt:=aE vAt (mV 0) (mC (.int 0))) (δ:=[some (.ref ls),some (.ref lh),some (.ref la),some (.ref lr),x4,x5,x6,x7,x8,x9,x10,x11,x12]) (h:=h') (h1:=h') (ys:=R) (emb:=rwV)
   (fun z=>some (deV z.d)) (by simp) t.i.ra.1 (by have:=t.l; rw [ae] at this; omega) (fun z _=>⟨_,rfl,fun h' _=>⟨rfl,by simp [cB,rwV]⟩⟩)
  rw [filterMap_some (fun z:Row=>deV z.d) R] at hc;have g1:(h'++[MO.lst (R.map fun z=>deV z.d)])[h'.length]?=some (.lst ((R.map (·.d)).map deV)):=by rw [bq]; exact aK
  rw [nR,hc,dN];exact k C R la lr _ _ (t.x.trans (Ext.app _ _)) (t.i.ext (Ext.app _ _)) (by have:=t.l; rw [ae] at this; omega) g1
noncomputable def rowOf (hs:List Str) (c:List Int) (S:Seen) (w:Nat):Row:=⟨⟨(hs.getD w "",c.getD w 0+1),S,.settle⟩,c.set w (c.getD w 0+1),0⟩
noncomputable def rnd (hs:List Str) (c:List Int) (S:Seen):List Row:=(ax hs.length).map (rowOf hs c S)
noncomputable def CJ (c:List Int):List Int:=c.map (·+1)
theorem HX (c:List Int) {w:Nat} (h:w < c.length):(CJ c).getD w 0=c.getD w 0+1:=by
 unfold CJ;simp [h]
structure CR (hs:List Str) (R:List Row) (c:List Int):Prop where
 len:c.length=hs.length
 ok:∀ z∈R,dA hs z
 inc:Inc R
 ct:∀ w,w < hs.length->((R.filter fun z=>decide (z.d.nm.1=hs.getD w "")).length:Int)=c.getD w 0
 le:∀ z∈R,∀ v,v < hs.length->z.c.getD v 0<=c.getD v 0
 nz:∀ z∈R,∀ v,0<=z.c.getD v 0
theorem CR.nn {hs:List Str} {R:List Row} {c:List Int} (a:CR hs R c) (k:Nat):0<=c.getD k 0:=by
 by_cases h:k < hs.length
 ·rw [<- a.ct k h]; omega
 ·have:c.length<=k:=by rw [a.len]; omega
  simp [this]
theorem EF {hs:List Str} (nd:hs.Nodup) {v w:Nat} (hv:v < hs.length) (hw:w < hs.length) (e:hs.getD v "" = hs.getD w ""):v=w:=by
 have e1:hs.getD v "" = hs[v]:=by simp [hv]
 have e2:hs.getD w "" = hs[w]:=by simp [hw]
 rw [e1,e2] at e;exact (List.getElem_inj nd).mp e
theorem GE (w:Nat):∀ n,(ax n).filter (fun k=>decide (k=w))=if w < n then [w] else []
 | 0=>rfl
 | n+1=>by
  rw [List.range_succ,gv,GE w n]
  by_cases h1:w < n
  ·have h2:¬ n=w:=by omega
   simp [h1,h2,ki h1]
  ·by_cases h2:n=w
   ·subst h2; simp
   ·have h3:¬ w < n+1:=by omega
    simp [h1,h2,h3]
theorem Ba {hs:List Str} (nd:hs.Nodup) (c:List Int) (S:Seen) {w:Nat} (hw:w < hs.length):(rnd hs c S).filter (fun z=>decide (z.d.nm.1=hs.getD w ""))=[rowOf hs c S w]:=by
 unfold rnd;rw [lx];have e:(ax hs.length).filter ((fun z:Row=>decide (z.d.nm.1=hs.getD w "")) ∘ rowOf hs c S)=(ax hs.length).filter fun k=>decide (k=w):=List.filter_congr fun k hk=>by
  have hk:=d4.mp hk
  show decide (hs.getD k "" = hs.getD w "")=decide (k=w)
  rw [decide_eq_decide];exact ⟨fun e=>EF nd hk hw e,fun e=>by rw [e]⟩
 rw [e,GE,if_pos hw];rfl
theorem gY {hs:List Str} {c:List Int} {S:Seen} {z:Row} (h:z∈rnd hs c S):∃ w,w < hs.length/\z=rowOf hs c S w:=by
 obtain ⟨w,hw,rfl⟩:=az.mp h;exact ⟨w,d4.mp hw,rfl⟩
theorem CR.more {hs:List Str} (nd:hs.Nodup) {R:List Row} {c:List Int} (a:CR hs R c) {S:Seen} (so:cD hs c S):CR hs (R++rnd hs c S) (CJ c):=by
 have li:(CJ c).length=hs.length:=by unfold CJ; rw [ae]; exact a.len
 have gi:∀ v,v < hs.length->(CJ c).getD v 0=c.getD v 0+1:=fun v hv=>HX c (by rw [a.len]; exact hv);have okn:∀ w,w < hs.length->dA hs (rowOf hs c S w):=fun w hw=>⟨by show (c.set w _).length=_; rw [de]; exact a.len,w,c,hw,a.len,a.nn w,rfl,rfl,so⟩;refine ⟨li,fun z hz=>?_,?_,fun w hw=>?_,fun z hz v hv=>?_,fun z hz v=>?_⟩
 ·rcases ba.mp hz with h | h
  ·exact a.ok z h
  ·obtain ⟨w,hw,rfl⟩:=gY h;exact okn w hw
 ·unfold Inc;rw [List.pairwise_append];refine ⟨a.inc,?_,fun z hz y hy e=>?_⟩
  ·unfold rnd;rw [c7];refine (List.pairwise_lt_range (n:=hs.length)).imp_of_mem fun {i j} hi hj hij e=>?_;have:=EF nd (d4.mp hi) (d4.mp hj) e;omega
  ·obtain ⟨w,hw,rfl⟩:=gY hy;have e:z.d.nm.1=hs.getD w "" := e;have:=B9 nd (a.ok z hz) hw e;have l1:=a.le z hz w hw
   show z.d.nm.2 < c.getD w 0+1
   omega
 ·rw [gv,c8,Ba nd c S hw,gi w hw,<- a.ct w hw];simp
 ·rw [gi v hv];rcases ba.mp hz with h | h
  ·have:=a.le z h v hv;omega
  ·obtain ⟨w,hw,rfl⟩:=gY h
   show (c.set w (c.getD w 0+1)).getD v 0<=_
   rw [cU _ _ _ _ _ (by rw [a.len]; exact hw)];split
   ·rename_i e; subst e; exact jd _
   ·omega
 ·rcases ba.mp hz with h | h
  ·exact a.nz z h v
  ·obtain ⟨w,hw,rfl⟩:=gY h
   show 0<=(c.set w (c.getD w 0+1)).getD v 0
   rw [cU _ _ _ _ _ (by rw [a.len]; exact hw)];have:=a.nn w;have:=a.nn v;split <;> omega
theorem cutD (P:Row->Nat) (m:Nat):∀ R:List Row,(R.filter fun z=>decide (P z < m+1)).length=(R.filter fun z=>decide (P z < m)).length+(R.filter fun z=>decide (P z=m)).length
 | []=>rfl
 | z :: R=>by
  have ih:=cutD P m R;rw [iu,iu,iu]
  by_cases h1:P z < m
  ·have h2:P z < m+1:=by omega
   have h3:¬ P z=m:=by omega
   simp [h1,h2,h3,ih]; omega
  ·by_cases h3:P z=m
   ·simp [h3,ih]; omega
   ·have h2:¬ P z < m+1:=by omega
    simp [h1,h2,h3,ih]
theorem dA.nm {hs:List Str} {z:Row} (o:dA hs z):∃ w,w < hs.length/\z.d.nm.1=hs.getD w "" := by
 obtain ⟨w,c0,hw,lc,_,ec,en,_⟩:=o.ex;exact ⟨w,hw,by rw [en]⟩
theorem EG {hs:List Str} (nd:hs.Nodup) {w:Nat} (hw:w < hs.length):hs.idxOf (hs.getD w "")=w:=by
 have e1:hs.getD w "" = hs[w]:=by simp [hw]
 rw [e1];exact ll nd w hw
theorem CR.sum {hs:List Str} (nd:hs.Nodup) {R:List Row} {c:List Int} (a:CR hs R c):tv hs.length c=(R.length:Int):=by
 have go:∀ m,m<=hs.length->((R.filter fun z=>decide (hs.idxOf z.d.nm.1 < m)).length:Int)=tv m c:=fun m=>by
  induction m with
  | zero=>intro _; simp [tv]
  | succ m ih=>
   intro hm;rw [cutD (fun z=>hs.idxOf z.d.nm.1),B8,<- ih (by omega),<- a.ct m (by omega)];have e:(R.filter fun z=>decide (hs.idxOf z.d.nm.1=m))=R.filter fun z=>decide (z.d.nm.1=hs.getD m ""):=List.filter_congr fun z hz=>by
    obtain ⟨w,hw,en⟩:=(a.ok z hz).nm;rw [decide_eq_decide,en,EG nd hw];exact ⟨fun e=>by rw [e],fun e=>EF nd hw (by omega) e⟩
   rw [e];omega
 rw [<- go _ (ai _)]
 congr 2
 rw [List.filter_eq_self];intro z hz;obtain ⟨w,hw,en⟩:=(a.ok z hz).nm;rw [en,EG nd hw];simpa using hw
structure TR (hs:List Str) (B:List Row) (c:List Int) (S:Seen):Prop where
 nd:hs.Nodup
 h0:hs≠[]
 b:CR hs B c
 so:cD hs c S
noncomputable abbrev allR (hs:List Str) (B:List Row) (c:List Int) (S:Seen):List Row:=B++rnd hs c S
theorem TR.sumS {hs:List Str} {B:List Row} {c:List Int} {S:Seen} (t:TR hs B c S):tot S=B.length:=by
 rw [t.so.tot t.nd t.b.nn,t.b.sum t.nd]
theorem TR.cr {hs:List Str} {B:List Row} {c:List Int} {S:Seen} (t:TR hs B c S):CR hs (allR hs B c S) (CJ c):=t.b.more t.nd t.so
theorem TR.last {hs:List Str} {B:List Row} {c:List Int} {S:Seen} (t:TR hs B c S) {w:Nat} (hw:w < hs.length):zV (allR hs B c S) (hs.getD w "")=some (rowOf hs c S w):=by
 unfold zV allR;rw [gv];have e:=Ba t.nd c S hw;have e:(rnd hs c S).filter (fun z=>hB (hs.getD w "") z.d)=[rowOf hs c S w]:=e;rw [e];simp
theorem TR.bndT {hs:List Str} {B:List Row} {c:List Int} {S:Seen} (t:TR hs B c S) {T:List De} (mem:∀ d,d∈T ↔ d∈(allR hs B c S).map (·.d)):bnd hs T=(B.length:Int)+1:=by
 have e:∀ x∈hs,stV (maxD ((T.filter fun d=>acB d.ac).filter fun d=>decide (d.nm.1=x)))=(B.length:Int)+1:=fun x hx=>by
  obtain ⟨w,hw,ex⟩:=List.getElem_of_mem hx;have ex:x=hs.getD w "" := by rw [<- ex]; simp [hw]
  have le:=last_eq t.cr.inc mem (hsB x) x (fun d hd=>by
   unfold hsB at hd;rw [cm] at hd;exact of_decide_eq_true hd.1)
  rw [List.filter_filter];have le:maxD (T.filter fun d=>decide (d.nm.1=x) && acB d.ac)=_:=le;rw [le];have ef:((allR hs B c S).map (·.d)).filter (hsB x)=((B.map (·.d)).filter (hsB x))++[(rowOf hs c S w).d]:=by
   unfold allR;rw [cj,gv]
   congr 1
   rw [lx];have e1:=Ba t.nd c S hw;have e2:(rnd hs c S).filter (hsB x ∘ fun z=>z.d)=(rnd hs c S).filter fun z=>decide (z.d.nm.1=hs.getD w ""):=List.filter_congr fun z hz=>by
    obtain ⟨v,hv,rfl⟩:=gY hz
    show (decide (hs.getD v "" = x) && true)=_
    rw [Bool.and_true,ex];rfl
   rw [e2,e1];rfl
  rw [ef];simp only [List.getLast?_append,List.getLast?_singleton,Option.some_or]
  show 1+(S.map (·.2)).sum=_
  have:=t.sumS;unfold tot at this;omega
 unfold bnd;obtain ⟨m1,_⟩:=uY (ns:=hs.map fun x=>stV (maxD ((T.filter fun d=>acB d.ac).filter fun d=>decide (d.nm.1=x)))) (by simpa using t.h0)
 obtain ⟨y,hy,ey⟩:=az.mp m1;rw [<- ey];exact e y hy
theorem TR.lows {hs:List Str} {B:List Row} {c:List Int} {S:Seen} (t:TR hs B c S) {z:Row} (hz:z∈allR hs B c S):sP ((B.length:Int)+1) (dD z.d)=true:=by
 unfold sP;rw [decide_eq_true_iff]
 show 1+tot z.d.sn<=_
 rcases ba.mp hz with h | h
 ·obtain ⟨w,c0,hw,lc,p0,ec,en,so⟩:=(t.b.ok z h).ex;have nn0:∀ k,0<=c0.getD k 0:=fun k=>by
   have:=t.b.nz z h k;rw [ec,cU _ _ _ _ _ (by omega)] at this;split at this
   ·rename_i e; subst e; exact p0
   ·exact this
  rw [so.tot t.nd nn0];have:tv hs.length c0<=tv hs.length c:=Pt _ fun v hv=>by
   have l1:=t.b.le z h v hv;rw [ec,cU _ _ _ _ _ (by omega)] at l1;split at l1
   ·rename_i e; subst e; omega
   ·exact l1
  rw [t.b.sum t.nd] at this;omega
 ·obtain ⟨w,hw,rfl⟩:=gY h;have:=t.sumS
  show 1+tot S<=_
  omega
theorem TR.due {hs:List Str} {B:List Row} {c:List Int} {S:Seen} (t:TR hs B c S) {p:Str×Int} {v w:Nat} (hv:v < hs.length) (hw:w < hs.length) (e:p.1=hs.getD v ""):oV hs (allR hs B c S) p (hs.getD w "")=decide (p.2<=if w=v then c.getD w 0+1 else c.getD v 0):=by
 unfold oV;rw [t.last hw,e,EG t.nd hv]
 show decide (p.2<=(c.set w (c.getD w 0+1)).getD v 0)=_
 rw [cU _ _ _ _ _ (by rw [t.b.len]; exact hw)]
theorem TR.sunkT {hs:List Str} {B:List Row} {c:List Int} {S:Seen} (t:TR hs B c S) {os os':List Dd} (o:oU (allR hs B c S) os) {D:List Row} (hD:(hs.length=1/\D=allR hs B c S)\/(hs.length≠1/\D=B)) (o':oU D os'):Lh hs (allR hs B c S) ((B.length:Int)+1) os=os'.map (·.nm):=by
 have hl:os.filter (sP ((B.length:Int)+1))=os:=by
  rw [List.filter_eq_self];intro d hd;obtain ⟨z,hz,rfl⟩:=(o.me d).mp hd;exact t.lows hz
 unfold Lh;rw [hl,lx]
 congr 1
 refine vL ?_ o'.nd (o.br.sublist k8) o'.br fun d=>?_
 ·exact (k8.map _).nodup o.nd
 ·rw [fi,o.me,o'.me];constructor
  ·rintro ⟨⟨z,hz,rfl⟩,ha⟩;rcases hD with ⟨_,rfl⟩ | ⟨hn,rfl⟩
   ·exact ⟨z,hz,rfl⟩
   ·rcases ba.mp hz with h | h
    ·exact ⟨z,h,rfl⟩
    ·exfalso;obtain ⟨w,hw,rfl⟩:=gY h;obtain ⟨w',hw',ne⟩:∃ w',w' < hs.length/\w'≠w:=by
      by_cases e:w=0
      ·exact ⟨1,by omega,by omega⟩
      ·exact ⟨0,by omega,by omega⟩
     have ha:allB hs (allR hs D c S) (hs.getD w "",c.getD w 0+1)=true:=ha;unfold allB at ha;have:=cg.mp ha (hs.getD w' "") (by
      have e1:hs.getD w' "" = hs[w']:=by simp [hw']
      rw [e1]; exact ee hw')
     rw [t.due hw hw' rfl,if_neg ne,decide_eq_true_iff] at this;have:c.getD w 0+1<=c.getD w 0:=this;omega
  ·rintro ⟨z,hz,rfl⟩;have hzA:z∈allR hs B c S:=by
    rcases hD with ⟨_,rfl⟩ | ⟨hn,rfl⟩
    ·exact hz
    ·exact fc _ hz
   refine ⟨⟨z,hzA,rfl⟩,?_⟩
   show allB hs (allR hs B c S) z.d.nm=true
   unfold allB;rw [cg];intro x hx;obtain ⟨w,hw,ex⟩:=List.getElem_of_mem hx;have ex:x=hs.getD w "" := by rw [<- ex]; simp [hw]
   rw [ex];rcases ba.mp hzA with h | h
   ·obtain ⟨v,hv,en⟩:=(t.b.ok z h).nm;rw [t.due hv hw en,decide_eq_true_iff,B9 t.nd (t.b.ok z h) hv en];have:=t.b.le z h v hv;split
    ·rename_i e; subst e; omega
    ·exact this
   ·obtain ⟨v,hv,rfl⟩:=gY h;rw [t.due hv hw rfl,decide_eq_true_iff];rcases hD with ⟨h1,_⟩ | ⟨hn,rfl⟩
    ·have:w=v:=by omega
     subst this;rw [if_pos rfl];exact jd _
    ·have hz2:=(t.b.le _ hz v hv);have hz2:(c.set v (c.getD v 0+1)).getD v 0<=c.getD v 0:=hz2;rw [cU _ _ _ _ _ (by rw [t.b.len]; exact hv),if_pos rfl] at hz2;omega
theorem TR.knw {hs:List Str} {B:List Row} {c:List Int} {S:Seen} (t:TR hs B c S) {w:Nat} (hw:w < hs.length) {v:PV} (d:Gz hs (allR hs B c S) (hs.getD w "") v):∃ S',v=sv S'/\cD hs (c.set w (c.getD w 0+1)) S':=by
 have d:match zV (allR hs B c S) (hs.getD w "") with | none=>v=.tup [] | some z=>∃ S,v=sv S/\cD hs z.c S:=d
 rw [t.last hw] at d;exact d
theorem Lo {hs:List Str} (h6:hs.length<=6) {R:List Row} (lR:R.length<=100) {c:List Int} (a:CR hs R c) {lh l:Nat} {h:PH} (gh:h[lh]?=some (.lst (hs.map PV.str))) (g:h[l]?=some (.lst ((R.map (·.d)).map deV))) {j1 j2:Nat} {δ:Ev} (e1:mV j1 δ h=.ok (.ref lh) h) (e2:cB [none,some j2] δ=[none,some (.ref l)]) (Q:PV->PH->Prop)
  (k:∀ l' h',Ext h h'->h'[l']?=some (.lst (c.map PV.int))->Q (.ref l') h'):(bE [none,some j2] (bH (mV j1)) (gN 0) dS (mCB dM (aC (bE [none,some 0] (bH (mV 1)) (gN 0) (bZ (aE vEq (aE vAt (aE vAt (mV 0) (mC (.int 0))) (mC (.int 0))) (mV 1))) (mV 0)) aJ)) δ h).W Q:=by
 refine sY (fun i v=>v=.int (c.getD i 0)) (dW e1 gh) (cR gh) (by rw [ae]; omega) (fun i v hv=>?_) fun l4 h4 vs x4 _ lv g4 ov=>?_
 ·rw [aj] at hv;obtain ⟨x,hx,rfl⟩:=bf.mp hv;have hi:=(ab.mp hx).1;have ex:x=hs.getD i "" := by rw [fb,hx]; rfl
  rw [e2];refine ⟨[some (.str x),some (.ref l)],rfl,fun h5 x5 Q5 k5=>?_⟩;have hc:=dX (m:=mV 1) (n:=l) (js:=[none,some 0]) (tg:=gN 0) (tst:=bZ (aE vEq (aE vAt (aE vAt (mV 0) (mC (.int 0))) (mC (.int 0))) (mV 1))) (elt:=mV 0) (δ:=[some (.str x),some (.ref l)]) (h:=h5) (h1:=h5) (ys:=R.map (·.d)) (emb:=deV)
   (fun d=>if decide (d.nm.1=x)=true then some (deV d) else none) (by simp) (x5 _ _ g) (by rw [ae]; omega) (fun d hd=>⟨_,rfl,fun h7 x7=>by
    by_cases z:d.nm.1=x
    ·rw [decide_eq_true z];simp [cB,de0,pv0,z]
    ·rw [decide_eq_false z];simp [cB,de0,pv0,z]⟩)
  rw [jB (fun d:De=>decide (d.nm.1=x)) deV] at hc;have g7:(h5++[MO.lst (((R.map (·.d)).filter fun d=>decide (d.nm.1=x)).map deV)])[h5.length]?=some (.lst (((R.map (·.d)).filter fun d=>decide (d.nm.1=x)).map deV)):=aK;have x7:Ext h5 (h5++[MO.lst (((R.map (·.d)).filter fun d=>decide (d.nm.1=x)).map deV)]):=Ext.app _ _;have el:((((R.map (·.d)).filter fun d=>decide (d.nm.1=x)).map deV).length:Int)=c.getD i 0:=by
   rw [ae,lx,ae,<- a.ct i hi,ex];rfl
  have vl:=cZ g7;rw [el] at vl;rw [mG,fY,hc];simp only [Rs.bind_ok,nU,vl,dN];exact k5 _ _ x7 rfl
 ·rw [ae] at lv;have:vs=c.map PV.int:=by
   refine e8 fun i=>?_;rw [aj]
   by_cases hi:i < hs.length
   ·have l1:i < vs.length:=by omega
    have l2:i < c.length:=by rw [a.len]; exact hi
    have:=ov i vs[i] (by simp [l1]);simp [l1,l2,this]
   ·have l1:vs.length<=i:=by omega
    have l2:c.length<=i:=by rw [a.len]; omega
    simp [l1,l2]
  rw [this] at g4;exact k l4 h4 x4 g4
theorem CK {hs:List Str} (nd:hs.Nodup) (h6:hs.length<=6) {R:List Row} (lR:R.length<=100) {c:List Int} (a:CR hs R c) {lh l:Nat} {h:PH} (gh:h[lh]?=some (.lst (hs.map PV.str))) (g:h[l]?=some (.lst ((R.map (·.d)).map deV))) (Q:PV->PH->Prop)
  (k:∀ S l' h',Ext h h'->cD hs c S->h'[l']?=some (.lst (((rnd hs c S).map (·.d)).map deV))->Q (.ref l') h'):(oI [.ref l,.ref lh] h).W Q:=by
 refine fG ?_;unfold AW;rw [aM,lQ];refine Lo h6 lR a gh g (by simp) rfl _ fun l2 h2 x2 g2=>?_;refine now ?_;rw [aM];simp;refine B3 nd h6 a.len (x2 _ _ gh) g2 _ fun S h3 x3 so=>?_;refine now ?_;have x13:=x2.trans x3;have gh3:=x13 _ _ gh;have hl:=cZ gh3;rw [ae] at hl;have hc:=uJ (js:=[none,some 3,some 1,some 2]) (tg:=gN 0) (tst:=dS) (elt:=fE (aC (fE (aC (aE vAt (mV 2) (mV 0)) (aC (aE bF (aE vAt (mV 3) (mV 0)) (mC (.int 1))) aJ))) (aC (mV 1) (aC (fE (aC (mC (.str "settle")) aJ)) aJ)))) (ms:=aC (mCB dM (aC (mV 1) aJ)) aJ)
  (δ:=[some (.ref l),some (.ref lh),some (.ref l2),some (sv S)]) (h:=h3) (h1:=h3) (j:=hs.length) (fun i=>some (deV (rowOf hs c S i).d)) (by simp [hl]) (by omega)
  (fun i hi=>⟨_,rfl,fun h4 x4=>⟨rfl,by
   have hi':i < hs.length:=by omega
   have v1:=cW (i:=(i:Int)) (x4 _ _ gh3);rw [show atI (hs.map PV.str) (i:Int)=some (.str (hs.getD i "")) from dQ (by rw [aj]; simp [hi'])] at v1
   have v2:=cW (i:=(i:Int)) (x4 _ _ (x3 _ _ g2));rw [show atI (c.map PV.int) (i:Int)=some (.int (c.getD i 0)) from dQ (by rw [aj]; have:i < c.length:=(by rw [a.len]; exact hi'); simp [this])] at v2
   generalize hq:hs.getD i "" = s at v1;generalize hr:c.getD i 0=n at v2;simp [cB,v1,v2];unfold deV rowOf;rw [hq,hr];rfl⟩⟩)
 rw [nR,hc,dN];refine k S _ _ (x13.trans (Ext.app _ _)) so ?_;rw [aK]
 congr 2
 unfold rnd;rw [bq,bq];refine (filterMap_some _ _).trans ?_;simp
theorem HI.cr {hs:List Str} {C:Cnt} {R:List Row} {la lr:Nat} {h:PH} (i:HI hs C R la lr h):CR hs R ((ax hs.length).map (tpw C)):=by
 have g:∀ v,v < hs.length->((ax hs.length).map (tpw C)).getD v 0=tpw C v:=fun v hv=>by simp [hv]
 exact ⟨by simp,i.ok,i.inc,fun w hw=>by rw [g w hw]; exact i.ct w hw,fun z hz v hv=>by rw [g v hv]; exact (i.c2 z hz).le v hv,fun z hz v=>(i.c2 z hz).nn v⟩
theorem Bb {h:PH} {a b:Nat} {xs ys:List De} (g1:h[a]?=some (.lst (xs.map deV))) (g2:h[b]?=some (.lst (ys.map deV))) (l1:xs.length+ys.length<=1000):bF (.ref a) (.ref b) h=.ok (.ref h.length) (h++[.lst ((xs++ys).map deV)]):=by
 rw [qG g1 g2 (by rw [ae,ae]; omega),cj]
theorem Vk {hs:List Str} (h6:hs.length<=6) {B:List Row} {c:List Int} {S:Seen} (t:TR hs B c S) {T:List De} (lT:T.length<=63) (mem:∀ d,d∈T ↔ d∈(allR hs B c S).map (·.d)) {lh lt lc q:Nat} (hq:q < hs.length) {h:PH} (gh:h[lh]?=some (.lst (hs.map PV.str))) (gt:h[lt]?=some (.lst (T.map deV))) (gc:h[lc]?=some (.lst (c.map PV.int))) {x0 x1 x3 x4 x5 x6 x7 x9:Option PV} {E:FE}
  (k:∀ h',Ext h h'->E.nx [x0,x1,some (.ref lh),x3,x4,x5,x6,x7,some (.ref lt),x9,some (.ref lc),some (.int q)] h'):
  (B1 [x0,x1,some (.ref lh),x3,x4,x5,x6,x7,some (.ref lt),x9,some (.ref lc),some (.int q)] h).W E:=by
 have v1:=cW (i:=(q:Int)) gh;rw [show atI (hs.map PV.str) (q:Int)=some (.str (hs.getD q "")) from dQ (by rw [aj]; simp [hq])] at v1
 have hqc:q < c.length:=by rw [t.b.len]; exact hq
 unfold B1;rw [yU];generalize hx:hs.getD q "" = x at v1;simp [v1];rw [<- hx];refine CA t.nd h6 t.cr.inc t.cr.ok (by omega) mem (hs.getD q "") gt _ fun v h1 x1 du=>?_;obtain ⟨S1,rfl,s1⟩:=t.knw hq du;have gc1:=x1 _ _ gc;rw [sW gc1,CB (n:=q) (xs:=c.map PV.int) (by rw [ae]; omega),dN];have y2:Ext h1 (h1++[MO.lst ((c.map PV.int).take q)]):=Ext.app _ _;have g2:(h1++[MO.lst ((c.map PV.int).take q)])[h1.length]?=some (.lst ((c.take q).map PV.int)):=by rw [List.map_take]; exact aK
 generalize h1++[MO.lst ((c.map PV.int).take q)]=h2 at y2 g2;have gc2:=y2 _ _ gc1;have v2:=cW (i:=(q:Int)) gc2;rw [show atI (c.map PV.int) (q:Int)=some (.int (c.getD q 0)) from dQ (by rw [aj]; simp [hqc])] at v2
 have v2:vIx (.ref lc) (.int q) h2=.ok (.int (c.getD q 0)) h2:=v2;rw [v2,dN,yV,dN];have y3:Ext h2 (h2++[MO.lst [.int (c.getD q 0+1)]]):=Ext.app _ _;have g3:(h2++[MO.lst [.int (c.getD q 0+1)]])[h2.length]?=some (.lst [.int (c.getD q 0+1)]):=aK;generalize h2++[MO.lst [PV.int (c.getD q 0+1)]]=h3 at y3 g3;have lc6:=t.b.len;have p1:=qG (y3 _ _ g2) g3 (by rw [ae,d9]; simp; omega);rw [p1,dN];have y4:Ext h3 (h3++[MO.lst ((c.take q).map PV.int++[.int (c.getD q 0+1)])]):=Ext.app _ _;have g4:(h3++[MO.lst ((c.take q).map PV.int++[.int (c.getD q 0+1)])])[h3.length]?=some (.lst ((c.take q).map PV.int++[.int (c.getD q 0+1)])):=aK;generalize h3++[MO.lst ((c.take q).map PV.int++[PV.int (c.getD q 0+1)])]=h4 at y4 g4;have gc4:=y4 _ _ (y3 _ _ gc2);have cd:=CC (n:=q+1) (xs:=c.map PV.int) (by rw [ae]; omega);have cd:iW (c.map PV.int) (some ((q:Int)+1)) none=(c.map PV.int).drop (q+1):=cd;rw [sW gc4,cd,dN];have y5:Ext h4 (h4++[MO.lst ((c.map PV.int).drop (q+1))]):=Ext.app _ _;have g5:(h4++[MO.lst ((c.map PV.int).drop (q+1))])[h4.length]?=some (.lst ((c.map PV.int).drop (q+1))):=aK;generalize h4++[MO.lst ((c.map PV.int).drop (q+1))]=h5 at y5 g5;have p2:=qG (y5 _ _ g4) g5 (by simp; omega);rw [p2,dN];have el:(c.take q).map PV.int++[PV.int (c.getD q 0+1)]++(c.map PV.int).drop (q+1)=(c.set q (c.getD q 0+1)).map PV.int:=by
  rw [List.set_eq_take_append_cons_drop,if_pos hqc,cj,a7,<- List.map_drop,List.append_assoc];rfl
 rw [el];have y6:Ext h5 (h5++[MO.lst ((c.set q (c.getD q 0+1)).map PV.int)]):=Ext.app _ _;have g6:(h5++[MO.lst ((c.set q (c.getD q 0+1)).map PV.int)])[h5.length]?=some (.lst ((c.set q (c.getD q 0+1)).map PV.int)):=aK;generalize h5++[MO.lst ((c.set q (c.getD q 0+1)).map PV.int)]=h6' at y6 g6;have x16:=x1.trans (y2.trans (y3.trans (y4.trans (y5.trans y6))));refine B3 t.nd h6 (by rw [de]; exact lc6) (x16 _ _ gh) g6 _ fun S2 h7 x7 s2=>?_;rw [s1.one s2,Kj (TM S2),dN];simp;exact k _ (x16.trans x7)
theorem CL {hs:List Str} (h6:hs.length<=6) {R:List Row} (inc:Inc R) (ok:∀ z∈R,dA hs z) (lR:R.length<=63):∃ os,oU R os:=by
 have mem:∀ d,d∈R.map (·.d) ↔ d∈R.map (·.d):=fun _=>l9;obtain ⟨t1,t2,t3⟩:=R7 h6 inc ok mem;have g:([MO.lst (((R.map (·.d)).map dD).map dP)]:PH)[0]?=some (.lst (((R.map (·.d)).map dD).map dP)):=rfl;obtain ⟨p,h',e,os,o⟩:=uG (kF ((R.map (·.d)).map dD) t1 (by rw [ae,ae]; exact lR) t2 0 _ g (fun _ _=>∃ os,oU R os) fun os' l' h' x' g' n' m' b'=>⟨os',n',fun d=>(m' d).trans (t3 d),b'⟩);exact ⟨os,o⟩
theorem Lp {hs:List Str} (h6:hs.length<=6) {R:List Row} (inc:Inc R) (ok:∀ z∈R,dA hs z) (lR:R.length<=63):∃ out,InF R out:=by
 have g:([MO.lst ((R.map (·.d)).map deV)]:PH)[0]?=some (.lst ((R.map (·.d)).map deV)):=rfl;obtain ⟨p,h',e,os,o⟩:=uG (vM h6 inc ok (by rw [ae]; exact lR) (fun _=>l9) g (fun _ _=>∃ out,InF R out) fun out l' h' x' g' o=>⟨out,o⟩);exact ⟨os,o⟩
theorem Oi {ds:List De} (l1:ds.length<=1000) {a l:Nat} (ha:a<=ds.length) {h:PH} (g:h[l]?=some (.lst (ds.map deV))) {x0 x1 x2 x3 x4 x5 x8 x9 x10 x11:Option PV} (Q:PV->PH->Prop) (k:∀ (T:List De) (n:Nat) (h':PH),Ext h h'->h'[n]?=some (.lst (T.map deV))->(∀ d:De,d∈T ↔ d∈ds)->T.length=ds.length->Q (.ref n) h'):(aE bF (mSl (mV 6) (mP (mV 7)) C6) (mUn uW (mSl (mV 6) C6 (mP (mV 7)))) [x0,x1,x2,x3,x4,x5,some (.ref l),some (.int a),x8,x9,x10,x11] h).W Q:=by
 have s1:vSl (.ref l) (some (a:Int)) none h=.ok (.ref h.length) (h++[MO.lst ((ds.drop a).map deV)]):=by
  rw [sW g]
  congr 4
  have:=CC (xs:=ds.map deV) (n:=a) (by rw [ae]; omega);rw [List.map_drop];exact this
 have x1:Ext h (h++[MO.lst ((ds.drop a).map deV)]):=Ext.app _ _;have g1:(h++[MO.lst ((ds.drop a).map deV)])[h.length]?=some (.lst ((ds.drop a).map deV)):=aK;generalize h++[MO.lst ((ds.drop a).map deV)]=hB at s1 x1 g1;have gB:=x1 _ _ g;have s2:vSl (.ref l) none (some (a:Int)) hB=.ok (.ref hB.length) (hB++[MO.lst ((ds.take a).map deV)]):=by
  rw [sW gB]
  congr 4
  have:=CB (xs:=ds.map deV) (n:=a) (by rw [ae]; omega);rw [List.map_take];exact this
 have x2:Ext hB (hB++[MO.lst ((ds.take a).map deV)]):=Ext.app _ _;have g2:(hB++[MO.lst ((ds.take a).map deV)])[hB.length]?=some (.lst ((ds.take a).map deV)):=aK;generalize hB++[MO.lst ((ds.take a).map deV)]=hC at s2 x2 g2;have r1:=HC g2;rw [<- List.map_reverse] at r1;have x3:Ext hC (hC++[MO.lst ((ds.take a).reverse.map deV)]):=Ext.app _ _;have g3:(hC++[MO.lst ((ds.take a).reverse.map deV)])[hC.length]?=some (.lst ((ds.take a).reverse.map deV)):=aK;generalize hC++[MO.lst ((ds.take a).reverse.map deV)]=hD at r1 x3 g3;have p1:=Bb (x3 _ _ (x2 _ _ g1)) g3 (by rw [k0,List.length_reverse,d9]; omega);simp [s1,s2,r1,p1];refine k (ds.drop a++(ds.take a).reverse) _ _ ((x1.trans (x2.trans x3)).trans (Ext.app _ _)) (by rw [aK]; simp) (fun d=>?_) (by rw [c8,k0,List.length_reverse,d9]; omega);rw [ba,List.mem_reverse]
 conv=>rhs; rw [<- List.take_append_drop a ds,ba]
 exact Or.comm
theorem main (ns:List Int) (hl:ns.length<=63):∃ h,KU [.fl (ns.map PV.int)] []=.ok (.bl true) h:=by
 have w:(KU [.fl (ns.map PV.int)] []).W fun p _=>p=.bl true:=by
  refine fG ?_;unfold KS;rw [aM];simp;refine now ?_;rw [aM];obtain ⟨c,hif⟩:∃ c:Int,∀ E:FE,E.nx [some (.fl (ns.map PV.int)),some (.int c),none,none,none,none,none,none,none,none,none,none] []->(iF (bZ (aE vGt (mCB dM (aC (mV 0) aJ)) (mC (.int 0)))) (bM 1 (aE vAt (mV 0) (mC (.int 0)))) jU [some (.fl (ns.map PV.int)),some (.int 0),none,none,none,none,none,none,none,none,none,none] []).W E:=by
   by_cases e:0 < ns.length
   ·obtain ⟨c,hc⟩:∃ c,atI (ns.map PV.int) 0=some (.int c):=⟨ns[0],dQ (i:=0) (by rw [aj,fq e]; rfl)⟩;exact ⟨c,fun E k=>by simp [e,hc]; exact k⟩
   ·exact ⟨0,fun E k=>by simp [e]; exact k⟩
  refine hif _ ?_;refine now ?_;rw [aM];simp;refine Ln c [] _ fun hs lh h1 x1 b1 hn nd gh=>?_;have h0:hs≠[]:=fun z=>by rw [z] at hn; simp at hn
  have h6:=hn.2;refine now ?_;rw [aM];simp;have ec:∃ cs:List Int,cs.length<=30/\iW (ns.map PV.int) (some 1) (some 31)=cs.map PV.int:=by
   refine ⟨iW ns (some 1) (some 31),?_,by unfold iW; rw [ae,<- List.map_drop,<- List.map_take]⟩;unfold iW;rw [d9];have e1:HT.sIx ns.length 0 (some (1:Int))=min 1 ns.length:=rfl;have e2:HT.sIx ns.length ns.length (some (31:Int))=min 31 ns.length:=rfl;rw [e1,e2];omega
  obtain ⟨cs,lcs,ecs⟩:=ec;rw [ecs];have x2:Ext h1 (h1++[MO.lst (cs.map PV.int)]):=Ext.app _ _;have g2:(h1++[MO.lst (cs.map PV.int)])[h1.length]?=some (.lst (cs.map PV.int)):=aK;generalize h1++[MO.lst (cs.map PV.int)]=h2 at x2 g2;refine EE nd h0 h6 (by omega) g2 (x2 _ _ gh) _ fun C R la lr l3 h3 x3 hi lR g3=>?_;have a1:=hi.cr;have gh3:=x3 _ _ (x2 _ _ gh);generalize (ax hs.length).map (tpw C)=c1 at a1;refine now ?_;rw [aM];simp;refine CK nd h6 (by omega) a1 gh3 g3 _ fun S1 l4 h4 x4 so1 g4=>?_;have lr1:∀ c S,(rnd hs c S).length=hs.length:=fun c S=>by unfold rnd; simp
  rw [Bb (x4 _ _ g3) g4 (by rw [ae,ae,lr1]; omega),dN,<- cj];have aB:=a1.more nd so1;have lB:(R++rnd hs c1 S1).length<=36:=by rw [c8,lr1]; omega
  generalize R++rnd hs c1 S1=B at aB lB;generalize CJ c1=c2 at aB;have x5:Ext h4 (h4++[MO.lst ((B.map (·.d)).map deV)]):=Ext.app _ _;have g5:(h4++[MO.lst ((B.map (·.d)).map deV)])[h4.length]?=some (.lst ((B.map (·.d)).map deV)):=aK;generalize h4++[MO.lst ((B.map (·.d)).map deV)]=h5 at x5 g5;generalize h4.length=l5 at g5;have gh5:=x5 _ _ (x4 _ _ gh3);clear g4 g3 hi g2 x1 b1;refine now ?_;rw [aM];simp;refine CK nd h6 (by omega) aB gh5 g5 _ fun S2 l6 h6' x6 so2 g6=>?_;have t:TR hs B c2 S2:=⟨nd,h0,aB,so2⟩;have g56:=x6 _ _ g5;refine now ?_;rw [aM];have hlv:=cZ g56;rw [ae,ae] at hlv;simp [hlv];refine now ?_;rw [aM];have pa:=Bb g56 g6 (by rw [ae,ae,lr1]; omega);rw [<- cj] at pa;have pa:bF (.ref l5) (.ref l6) h6'=.ok (.ref h6'.length) (h6'++[.lst (((allR hs B c2 S2).map (·.d)).map deV)]):=pa;have lA:(allR hs B c2 S2).length=B.length+hs.length:=by unfold allR; rw [c8,lr1]
  have x7:Ext h6' (h6'++[MO.lst (((allR hs B c2 S2).map (·.d)).map deV)]):=Ext.app _ _;have g7:(h6'++[MO.lst (((allR hs B c2 S2).map (·.d)).map deV)])[h6'.length]?=some (.lst (((allR hs B c2 S2).map (·.d)).map deV)):=aK;simp only [lQ,Gd,Pk,yR,yQ,Rs.bind_ok,pa,dN];simp only [i6,i7];generalize h6'++[MO.lst (((allR hs B c2 S2).map (·.d)).map deV)]=h7 at x7 g7;generalize h6'.length=l7 at g7;have g57:=x7 _ _ g56;have gh7:=x7 _ _ (x6 _ _ gh5);refine now ?_;rw [aM];have hlv:=cZ g7;rw [ae,ae,lA] at hlv;obtain ⟨a,ea,ha⟩:∃ a:Nat,(c / 7) % ((B.length+hs.length:Nat):Int)=a/\a < B.length+hs.length:=by
   have q1:=gj (c / 7) (b:=((B.length+hs.length:Nat):Int)) (by omega);have q2:=gq (c / 7) (b:=((B.length+hs.length:Nat):Int)) (by omega);exact ⟨((c / 7) % ((B.length+hs.length:Nat):Int)).toNat,by omega,by omega⟩
  generalize hN:((B.length+hs.length:Nat):Int)=N at hlv ea;simp (disch:=omega) [hlv,ea];refine now ?_;rw [aM,lQ];refine Oi (a:=a) (by rw [ae]; omega) (by rw [ae,lA]; omega) g7 _ fun T lt h8 x8 g8 mem lT=>?_;rw [ae,lA] at lT;have gh8:=x8 _ _ gh7;have g78:=x8 _ _ g7;have g58:=x8 _ _ g57;have ok:=t.cr.ok;have inc:=t.cr.inc;obtain ⟨out,fo⟩:=Lp h6 inc ok (by omega);obtain ⟨os,oo⟩:=CL h6 inc ok (by omega);have hM:=t.bndT mem;refine now ?_;rw [aM];simp;refine vK h0 h6 (by omega) (R9 h6 ok mem) gh8 g8 _ fun h9 x9=>?_;have hM':jZ (hs.map fun x=>stV (maxD ((T.filter fun d=>acB d.ac).filter fun d=>decide (d.nm.1=x))))=(B.length:Int)+1:=hM;rw [hM'];simp;refine EC h0 h6 inc ok (by omega) (by omega) mem fo (x9 _ _ gh8) (x9 _ _ g8) _ fun l10 h10 x10 _ g10=>?_;refine vM h6 inc ok (by rw [ae]; omega) (fun _=>l9) (x10 _ _ (x9 _ _ g78)) _ fun out' l11 h11 x11 g11 fo'=>?_;rw [hM] at g10;have eo:out.filter (sP ((B.length:Int)+1))=out:=by
   rw [List.filter_eq_self];intro d hd;obtain ⟨z,hz,rfl⟩:=fo.sub hd;exact t.lows hz
  rw [eo,fo.one fo'] at g10;have plo:(out'.map dP).all (PV.pl 39)=true:=Ra (R:=allR hs B c2 S2) fun d hd=>fo'.sub hd;have ne:=Gf (x11 _ _ g10) g11 plo plo;rw [decide_eq_true rfl] at ne;rw [ne,dN];simp;have x811:=x9.trans (x10.trans x11);refine now ?_;rw [aM];simp;refine now ?_;rw [aM];have hlh:=cZ (x811 _ _ gh8);rw [ae] at hlh;obtain ⟨lD,D,hD,gD,hif2⟩:∃ lD D,((hs.length=1/\D=allR hs B c2 S2)\/(hs.length≠1/\D=B))/\h11[lD]?=some (.lst ((D.map (·.d)).map deV))/\∀ E:FE,E.nx [some (.fl (ns.map PV.int)),some (.int c),some (.ref lh),some (.ref l5),some (.ref l6),some (.int B.length),some (.ref l7),some (.int a),some (.ref lt),some (.ref lD),none,none] h11->(iF (bZ (aE vEq (mCB dM (aC (mV 2) aJ)) (mC (.int 1)))) (bM 9 (mV 6)) jU [some (.fl (ns.map PV.int)),some (.int c),some (.ref lh),some (.ref l5),some (.ref l6),some (.int B.length),some (.ref l7),some (.int a),some (.ref lt),some (.ref l5),none,none] h11).W E:=by
   by_cases e:hs.length=1
   ·refine ⟨l7,_,.inl ⟨e,rfl⟩,x811 _ _ g78,fun E k=>?_⟩;have e':(hs.length:Int)=1:=by omega
    rw [e'] at hlh;simp [hlh];exact k
   ·refine ⟨l5,_,.inr ⟨e,rfl⟩,x811 _ _ g58,fun E k=>?_⟩;have e':¬ (hs.length:Int)=1:=by omega
    simp [hlh,e'];exact k
  refine hif2 _ ?_;have okD:(∀ z∈D,dA hs z)/\Inc D/\D.length<=60:=by
   rcases hD with ⟨_,rfl⟩ | ⟨_,rfl⟩
   ·exact ⟨ok,inc,by omega⟩
   ·exact ⟨aB.ok,aB.inc,by omega⟩
  obtain ⟨os',oD⟩:=CL h6 okD.2.1 okD.1 (by omega);refine now ?_;rw [aM];simp;refine Od nd h0 h6 inc ok (by omega) (by omega) mem oo (x811 _ _ gh8) (x811 _ _ g8) _ fun l12 h12 x12 _ g12=>?_;rw [hM,t.sunkT oo hD oD] at g12;obtain ⟨p13,h13,e13,l13,rfl,x13,g13⟩:=uG (CH h6 okD.2.1 okD.1 (by rw [ae]; omega) (fun _=>l9) oD (x12 _ _ gD) (fun p h'=>∃ l,p=.ref l/\Ext h12 h'/\h'[l]?=some (.lst (os'.map dP))) fun l h' y g=>⟨l,rfl,y,g⟩);have lo:=oD.len okD.2.1;have hc:=dX (m:=bL 1 cH (aC (mV 9) aJ)) (n:=l13) (js:=[none]) (tg:=gN 0) (tst:=dS) (elt:=aE vAt (mV 0) (mC (.int 0))) (δ:=[some (.fl (ns.map PV.int)),some (.int c),some (.ref lh),some (.ref l5),some (.ref l6),some (.int B.length),some (.ref l7),some (.int a),some (.ref lt),some (.ref lD),none,none]) (h:=h12) (h1:=h13) (ys:=os') (emb:=dP)
   (fun d=>some (pv d.nm)) (by rw [uH]; simp [e13]) g13 (by omega) (fun d hd=>⟨_,rfl,fun h3 x3=>⟨rfl,by simp [cB,dP0]⟩⟩)
  rw [filterMap_some] at hc;have en:(os'.map fun d=>pv d.nm)=(os'.map (·.nm)).map pv:=by rw [bq]; rfl
  rw [en] at hc;have x14:Ext h13 (h13++[MO.lst ((os'.map (·.nm)).map pv)]):=Ext.app _ _;have g14:(h13++[MO.lst ((os'.map (·.nm)).map pv)])[h13.length]?=some (.lst ((os'.map (·.nm)).map pv)):=aK;generalize h13++[MO.lst ((os'.map (·.nm)).map pv)]=h14 at hc x14 g14;generalize h13.length=l14 at hc g14;have ne:=Gf ((x13.trans x14) _ _ g12) g14 (Li _) (Li _);rw [decide_eq_true rfl] at ne;rw [hc,dN,ne,dN];simp;have x814:=x811.trans (x12.trans (x13.trans x14));refine now ?_;rw [aM,lQ];refine Lo h6 (by omega) aB (x814 _ _ gh8) (x814 _ _ g58) (by simp) rfl _ fun l15 h15 x15 g15=>?_;simp only [i6,i7];have x815:=x814.trans x15;refine now ?_;rw [aM];have hlh:=cZ (x815 _ _ gh8);rw [ae] at hlh;refine Kf (j:=(hs.length:Int)) (fun q δ h'=>Ext h15 h'/\∃ x11,δ=[some (.fl (ns.map PV.int)),some (.int c),some (.ref lh),some (.ref l5),some (.ref l6),some (.int B.length),some (.ref l7),some (.int a),some (.ref lt),some (.ref lD),some (.ref l15),x11]) (by simp [hlh]) (by omega) ⟨Ext.refl _,_,rfl⟩ ?_ ?_
  ·rintro q δ h' hq ⟨y1,x11,rfl⟩;exact Vk h6 t (by omega) mem (by omega) (y1 _ _ (x815 _ _ gh8)) (y1 _ _ (x815 _ _ g8)) (y1 _ _ g15) fun h'' y2=>⟨y1.trans y2,_,rfl⟩
  ·rintro δ h' ⟨y1,x11,rfl⟩;refine now ?_;simp
 obtain ⟨p,h,e,rfl⟩:=uG w;exact ⟨h,e⟩
end K80
namespace K80
open PySem L2
noncomputable def top (i:Nat):Stmt:=PySem.Challenge.pw_copymeet_k80_whole_two_rounds.main.body.getD i (.Pass ⟨0,0,0,0⟩)
noncomputable abbrev bsL:List Str:=["range","len","sorted","tuple","list","max","sum","min","dict","all"]
noncomputable abbrev cC (w:World) (K:af) (cl:Str->Option Addr):MC:=⟨K,cl,bsL,fun _ _ _=>False,w⟩
noncomputable abbrev kY:Stmt:=top 21
theorem iL:aZ ["_law_cell","_law_size","_law_at","_law_found","_law_k","_law_letter"] ["_law_cell"] (aF kY):=⟨rfl,rfl,rfl,by decide +kernel,rfl,by decide +kernel,by decide +kernel⟩
noncomputable abbrev qP:Stmt:=top 22
theorem Oj:aZ ["_law_hands_here","_law_counts"] ["_law_hands_here","_law_counts"] (aF qP):=⟨rfl,rfl,rfl,by decide +kernel,rfl,by decide +kernel,by decide +kernel⟩
noncomputable abbrev zW:List Str:=["_law_k","_law_hands_here","_law_counts"]
theorem EH:(zW).Nodup:=by decide +kernel
noncomputable abbrev kZ:Stmt:=top 20
theorem CM:aZ ["_law_cell","_law_k","_law_number"] ["_law_cell","_law_k"] (aF kZ):=⟨rfl,rfl,rfl,by decide +kernel,rfl,by decide +kernel,by decide +kernel⟩
noncomputable abbrev zX:Stmt:=top 23
theorem EI:aZ ["_law_way","_law_many","_law_cell","_law_number","_law_first"] ["_law_way","_law_many","_law_cell"] (aF zX):=⟨rfl,rfl,rfl,by decide +kernel,rfl,by decide +kernel,by decide +kernel⟩
noncomputable abbrev fK:Stmt:=top 24
theorem bO:aZ ["_law_script","_law_hands_here","_law_all_counts","_law_rows","_law_cell","_law_who","_law_counts","_law_way","_law_name","_law_deed","_law_other","_law_far","_law_heard"] ["_law_script","_law_hands_here"] (aF fK):=⟨rfl,rfl,rfl,by decide +kernel,rfl,by decide +kernel,by decide +kernel⟩
noncomputable abbrev oW:List Str:=["_law_hand","_law_hands_here"]
theorem xH:(oW).Nodup:=by decide +kernel
noncomputable abbrev oX:List Str:=["_law_hand"]
theorem xI:(oX).Nodup:=by decide +kernel
noncomputable abbrev oY:List Str:=["_law_row","_law_hands_here","_law_other"]
theorem xJ:(oY).Nodup:=by decide +kernel
noncomputable abbrev oZ:List Str:=["_law_k","_law_counts","_law_far"]
theorem xK:(oZ).Nodup:=by decide +kernel
noncomputable abbrev pA:List Str:=["_law_row"]
theorem xM:(pA).Nodup:=by decide +kernel
noncomputable abbrev lE:Stmt:=top 25
theorem vP:aZ ["_law_deeds","_law_hands_here","_law_counts","_law_seen_here"] ["_law_deeds","_law_hands_here"] (aF lE):=⟨rfl,rfl,rfl,by decide +kernel,rfl,by decide +kernel,by decide +kernel⟩
noncomputable abbrev vQ:List Str:=["_law_hand","_law_deeds"]
theorem CN:(vQ).Nodup:=by decide +kernel
noncomputable abbrev vR:List Str:=["_law_deed","_law_hand"]
theorem CO:(vR).Nodup:=by decide +kernel
noncomputable abbrev vS:List Str:=["_law_k","_law_seen_here","_law_hands_here","_law_counts"]
theorem CP:(vS).Nodup:=by decide +kernel
noncomputable abbrev dI:Stmt:=top 13
theorem Bc:aZ ["deed"] ["deed"] (aF dI):=⟨rfl,rfl,rfl,by decide +kernel,rfl,by decide +kernel,by decide +kernel⟩
noncomputable abbrev fL:Stmt:=top 14
theorem EJ:aZ ["hand","deeds"] ["hand","deeds"] (aF fL):=⟨rfl,rfl,rfl,by decide +kernel,rfl,by decide +kernel,by decide +kernel⟩
noncomputable abbrev pB:List Str:=["deed","hand"]
theorem xO:(pB).Nodup:=by decide +kernel
noncomputable abbrev lF:Stmt:=top 4
theorem Lq:aZ ["deed"] ["deed"] (aF lF):=⟨rfl,rfl,rfl,by decide +kernel,rfl,by decide +kernel,by decide +kernel⟩
noncomputable abbrev vT:List Str:=["pair"]
theorem CQ:(vT).Nodup:=by decide +kernel
noncomputable abbrev lG:Stmt:=top 16
theorem vU:aZ ["hands","deeds","settles","lasts"] ["hands","deeds"] (aF lG):=⟨rfl,rfl,rfl,by decide +kernel,rfl,by decide +kernel,by decide +kernel⟩
noncomputable abbrev vV:List Str:=["deed"]
theorem CS:(vV).Nodup:=by decide +kernel
noncomputable abbrev vW:List Str:=["hand","settles"]
theorem CT:(vW).Nodup:=by decide +kernel
noncomputable abbrev vX:List Str:=["deed"]
theorem CU:(vX).Nodup:=by decide +kernel
noncomputable abbrev iM:Stmt:=top 2
theorem lH:aZ ["one","other","numbers","hand","n"] ["one","other"] (aF iM):=⟨rfl,rfl,rfl,by decide +kernel,rfl,by decide +kernel,by decide +kernel⟩
noncomputable abbrev fM:Stmt:=top 3
theorem EK:aZ ["seen","name"] ["seen","name"] (aF fM):=⟨rfl,rfl,rfl,by decide +kernel,rfl,by decide +kernel,by decide +kernel⟩
noncomputable abbrev lI:Stmt:=top 15
theorem CV:aZ ["hand","deeds","last"] ["hand","deeds"] (aF lI):=⟨rfl,rfl,rfl,by decide +kernel,rfl,by decide +kernel,by decide +kernel⟩
noncomputable abbrev qQ:Stmt:=top 5
theorem Be:aZ ["deed","hand","n"] ["deed"] (aF qQ):=⟨rfl,rfl,rfl,by decide +kernel,rfl,by decide +kernel,by decide +kernel⟩
noncomputable abbrev eP:Stmt:=top 6
theorem kG:aZ ["deeds","by_name","deed"] ["deeds"] (aF eP):=⟨rfl,rfl,rfl,by decide +kernel,rfl,by decide +kernel,by decide +kernel⟩
noncomputable abbrev iN:Stmt:=top 1
theorem qR:aZ ["seen","name","hand","n"] ["seen","name"] (aF iN):=⟨rfl,rfl,rfl,by decide +kernel,rfl,by decide +kernel,by decide +kernel⟩
noncomputable abbrev qS:Stmt:=top 17
theorem sZ:aZ ["hands","deeds","highest","low","seens"] ["hands","deeds"] (aF qS):=⟨rfl,rfl,rfl,by decide +kernel,rfl,by decide +kernel,by decide +kernel⟩
noncomputable abbrev zY:List Str:=["deed","highest"]
theorem EL:(zY).Nodup:=by decide +kernel
noncomputable abbrev zZ:List Str:=["hand","deeds"]
theorem EM:(zZ).Nodup:=by decide +kernel
noncomputable abbrev A0:List Str:=["name","seens"]
theorem EN:(A0).Nodup:=by decide +kernel
noncomputable abbrev A1:List Str:=["seen","name"]
theorem EO:(A1).Nodup:=by decide +kernel
noncomputable abbrev fN:Stmt:=top 8
theorem ER:aZ ["deed"] ["deed"] (aF fN):=⟨rfl,rfl,rfl,by decide +kernel,rfl,by decide +kernel,by decide +kernel⟩
noncomputable abbrev eQ:Stmt:=top 9
theorem fC:aZ ["n","backs","back","word","first","last"] ["n","backs"] (aF eQ):=⟨rfl,rfl,rfl,by decide +kernel,rfl,by decide +kernel,by decide +kernel⟩
noncomputable abbrev iO:Stmt:=top 10
theorem dJ:aZ ["deeds","taken","backs","deed","hand","n","word","by"] ["deeds"] (aF iO):=⟨rfl,rfl,rfl,by decide +kernel,rfl,by decide +kernel,by decide +kernel⟩
noncomputable abbrev eR:Stmt:=top 11
theorem kH:aZ ["deeds","ordered","taken"] ["deeds"] (aF eR):=⟨rfl,rfl,rfl,by decide +kernel,rfl,by decide +kernel,by decide +kernel⟩
noncomputable abbrev lU:List Str:=["deed","taken"]
theorem vY:(lU).Nodup:=by decide +kernel
noncomputable abbrev fO:Stmt:=top 18
theorem vZ:aZ ["hands","deeds","highest"] ["hands","deeds"] (aF fO):=⟨rfl,rfl,rfl,by decide +kernel,rfl,by decide +kernel,by decide +kernel⟩
noncomputable abbrev pC:List Str:=["deed","highest"]
theorem xP:(pC).Nodup:=by decide +kernel
noncomputable abbrev pD:Stmt:=top 26
theorem dC:aZ ["_law_script","_law_cell","_law_hands_here","_law_deeds","_law_last","_law_many","_law_plain","_law_at","_law_turned","_law_due","_law_counts","_law_k"] ["_law_script"] (aF pD):=⟨rfl,rfl,rfl,by decide +kernel,rfl,by decide +kernel,by decide +kernel⟩
noncomputable abbrev CW:List Str:=["_law_deed"]
theorem HY:(CW).Nodup:=by decide +kernel
noncomputable abbrev CY:List Str:=["_law_hand","_law_deeds"]
theorem HZ:(CY).Nodup:=by decide +kernel
noncomputable abbrev CZ:List Str:=["_law_deed","_law_hand"]
theorem I0:(CZ).Nodup:=by decide +kernel
theorem kI:("range" : Str)∈bsL:=(.head _)
theorem dE:("len" : Str)∈bsL:=(.tail _ (.head _))
theorem lJ:("sorted" : Str)∈bsL:=(.tail _ (.tail _ (.head _)))
theorem D0:("tuple" : Str)∈bsL:=(.tail _ (.tail _ (.tail _ (.head _))))
theorem Bf:("max" : Str)∈bsL:=(.tail _ (.tail _ (.tail _ (.tail _ (.tail _ (.head _))))))
section
variable {P:Program} {w:World} {K:af} {mg:Str->Option Value} {base:Heap} {cl:Str->Option Addr}
variable (P w K mg base cl)
noncomputable abbrev D1:Prop:=∃ a fd,Def K mg "_law_hands" kY a fd ["_law_cell"]/\aY P w K mg base CX0 1 a fd ["_law_cell"] (spM (cC w K cl) 1 sX)
noncomputable abbrev tB:Prop:=∃ a fd,Def K mg "_law_seen" qP a fd ["_law_hands_here","_law_counts"]/\aY P w K mg base CX0 1 a fd ["_law_hands_here","_law_counts"] (spM (cC w K cl) 2 mM)
noncomputable abbrev D2:Prop:=∃ a fd,Def K mg "_law_mixed" kZ a fd ["_law_cell","_law_k"]/\aY P w K mg base CX0 1 a fd ["_law_cell","_law_k"] (spM (cC w K cl) 2 oH)
noncomputable abbrev Lr:Prop:=∃ a fd,Def K mg "_law_act" zX a fd ["_law_way","_law_many","_law_cell"]/\aY P w K mg base CX0 2 a fd ["_law_way","_law_many","_law_cell"] (spM (cC w K cl) 3 Cv)
noncomputable abbrev wA:Prop:=∃ a fd,Def K mg "_law_history" fK a fd ["_law_script","_law_hands_here"]/\aY P w K mg base CX0 3 a fd ["_law_script","_law_hands_here"] (spM (cC w K cl) 2 kT)
noncomputable abbrev D3:Prop:=∃ a fd,Def K mg "_law_round" lE a fd ["_law_deeds","_law_hands_here"]/\aY P w K mg base CX0 2 a fd ["_law_deeds","_law_hands_here"] (spM (cC w K cl) 2 oI)
noncomputable abbrev pE:Prop:=∃ a fd,Def K mg "number_of" dI a fd ["deed"]/\aY P w K mg base CX0 1 a fd ["deed"] (spM (cC w K cl) 1 cT)
noncomputable abbrev mT:Prop:=∃ a fd,Def K mg "last_of" fL a fd ["hand","deeds"]/\aY P w K mg base CX0 4 a fd ["hand","deeds"] (spM (cC w K cl) 2 iH)
noncomputable abbrev kJ:Prop:=∃ a fd,Def K mg "stamp" lF a fd ["deed"]/\aY P w K mg base CX0 1 a fd ["deed"] (spM (cC w K cl) 1 gX)
noncomputable abbrev pF:Prop:=∃ a fd,Def K mg "bound" lG a fd ["hands","deeds"]/\aY P w K mg base CX0 5 a fd ["hands","deeds"] (spM (cC w K cl) 2 kU)
noncomputable abbrev A2:Prop:=∃ a fd,Def K mg "joined" iM a fd ["one","other"]/\aY P w K mg base CX0 1 a fd ["one","other"] (spM (cC w K cl) 2 oK)
noncomputable abbrev wB:Prop:=∃ a fd,Def K mg "widened" fM a fd ["seen","name"]/\aY P w K mg base CX0 2 a fd ["seen","name"] (spM (cC w K cl) 2 kW)
noncomputable abbrev wC:Prop:=∃ a fd,Def K mg "known" lI a fd ["hand","deeds"]/\aY P w K mg base CX0 5 a fd ["hand","deeds"] (spM (cC w K cl) 2 oM)
noncomputable abbrev GF:Prop:=∃ a fd,Def K mg "rank" qQ a fd ["deed"]/\aY P w K mg base CX0 2 a fd ["deed"] (spM (cC w K cl) 1 AZ)
noncomputable abbrev gZ:Prop:=∃ a fd,Def K mg "in_order" eP a fd ["deeds"]/\aY P w K mg base CX0 5 a fd ["deeds"] (spM (cC w K cl) 1 cH)
noncomputable abbrev A3:Prop:=∃ a fd,Def K mg "covers" iN a fd ["seen","name"]/\aY P w K mg base CX0 1 a fd ["seen","name"] (spM (cC w K cl) 2 iI)
noncomputable abbrev GG:Prop:=∃ a fd,Def K mg "sunk" qS a fd ["hands","deeds"]/\aY P w K mg base CX0 6 a fd ["hands","deeds"] (spM (cC w K cl) 2 B0)
noncomputable abbrev wD:Prop:=∃ a fd,Def K mg "name_of" fN a fd ["deed"]/\aY P w K mg base CX0 1 a fd ["deed"] (spM (cC w K cl) 1 iJ)
noncomputable abbrev rZ:Prop:=∃ a fd,Def K mg "taker_of" eQ a fd ["n","backs"]/\aY P w K mg base CX0 1 a fd ["n","backs"] (spM (cC w K cl) 2 jA)
noncomputable abbrev A4:Prop:=∃ a fd,Def K mg "takers" iO a fd ["deeds"]/\aY P w K mg base CX0 4 a fd ["deeds"] (spM (cC w K cl) 1 oQ)
noncomputable abbrev kK:Prop:=∃ a fd,Def K mg "in_force" eR a fd ["deeds"]/\aY P w K mg base CX0 6 a fd ["deeds"] (spM (cC w K cl) 1 eO)
noncomputable abbrev wF:Prop:=∃ a fd,Def K mg "settled" fO a fd ["hands","deeds"]/\aY P w K mg base CX0 7 a fd ["hands","deeds"] (spM (cC w K cl) 2 kX)
variable {P w K mg base cl}
theorem gJ {j:Nat} {nm:Str} {st:Stmt} {f:Addr} {fd:c5} {ps:List Str} {sp:Sp} (D:Def K mg nm st f fd ps) (h:Fun K nm nm st f fd->aY P w K mg base CX0 j f fd ps sp):∃ a fd,Def K mg nm st a fd ps/\aY P w K mg base CX0 j a fd ps sp:=⟨_,_,D,h D.fn⟩
theorem Ls {f:Addr} {fd:c5} (hbn:∀ x∈bsL,mg x=none) (F:Fun K "_law_hands" "_law_hands" kY f fd):aY P w K mg base CX0 1 f fd ["_law_cell"] (spM (cC w K cl) 1 sX):=
 cQ (C:=cC w K cl) (k:=0) (N:=["_law_cell","_law_size","_law_at","_law_found","_law_k","_law_letter"]) (body:=AU) (fun _ _ _ h=>h) hbn F iL fun cdv A outer s H E=>
 (aG (bB (i:=1) iL.nd (aL bQ aH (aL dZ (aA 0) aH)))
 (aG (bB (i:=2) iL.nd (aL dZ (aL jF (aA 0) aH) (aA 1)))
 (aG (bB (i:=3) iL.nd (uB aI))
 (aG (rR (uE (aD (aL bQ aH (aL dZ (aL jF (aA 0) aH) aH)) aI) (hb:=kI)) (aR iL.nd)
  (aG (bB (i:=5) iL.nd (bS jS (aL dZ (aL bQ (aL jF (aA 0) aH) (aL G7 (aA 4) (aL bQ aH (aL dZ (aL jF (aA 0) aH) aH)))) aH)))
  (aO (Ka (QJ PySem.F.plainAttrs_list PySem.F.slot_list_append PySem.F.type_list_append uF (aA 3) (aD (aL bQ (aL bQ (aL Pm jS (aA 2)) (aA 5)) (aL Pm jS (aL G6 (aL G6 (aA 1) aH) (aA 2)))) aI))))))
 (aO (bW (aA 3)))))))
theorem Ol {f:Addr} {fd:c5} (hbn:∀ x∈bsL,mg x=none) (F:Fun K "_law_seen" "_law_seen" qP f fd):aY P w K mg base CX0 1 f fd ["_law_hands_here","_law_counts"] (spM (cC w K cl) 2 mM):=
 cQ (C:=cC w K cl) (k:=0) (N:=["_law_hands_here","_law_counts"]) (body:=Ew) (fun _ _ _ h=>h) hbn F Oj fun cdv A outer s H E=>
 (aO (bW (nQ G9 PyProof.Rows.Boot.«tuple» (aD (bK Cd PyProof.Rows.Boot.«sorted» (aD (cK (js:=[none,some 0,some 1]) (N:=zW) rfl rfl (by rfl) (uE (aD (bK fV PyProof.Rows.Boot.«len» (aD (aA 0) aI) (hb:=dE)) aI) (hb:=kI)) (fun _ _ _ _=>(aR EH)) (fun _ _ _ _=>(hV (cA Nr (bS (aA 2) (aA 0)) aH))) (fun _ _ _ _=>(gO (aD (bS (aA 1) (aA 0)) (aD (bS (aA 2) (aA 0)) aI))))) aI) (hb:=lJ)) aI) (hb:=D0))))
theorem Lu {f:Addr} {fd:c5} (hbn:∀ x∈bsL,mg x=none) (F:Fun K "_law_mixed" "_law_mixed" kZ f fd):aY P w K mg base CX0 1 f fd ["_law_cell","_law_k"] (spM (cC w K cl) 2 oH):=
 cQ (C:=cC w K cl) (k:=0) (N:=["_law_cell","_law_k","_law_number"]) (body:=AV) (fun _ _ _ h=>h) hbn F CM fun cdv A outer s H E=>
 (aG (mE (SW.t (w_and (cA tY (aL dZ (aA 0) aH) aH) (Eh (cA Nr (aA 0) (aL K0 aH aH)))))
  (aO (bW (aL dZ (aL jF (aA 0) aH) (aL K0 aH aH))))
  eJ)
 (aG (bB (i:=2) CM.nd (aL dZ (aL G7 (aL bQ (aL bQ (aA 0) (aL G7 aH (aA 1))) aH) aH) aH))
 (aO (bW (aL dZ (aL G7 (aA 2) (aL bQ (aL jF (aA 2) aH) aH)) aH)))))
theorem Rf {f:Addr} {fd:c5} (hbn:∀ x∈bsL,mg x=none) (F:Fun K "_law_act" "_law_act" zX f fd) (Bg:D2 P w K mg base cl):aY P w K mg base CX0 2 f fd ["_law_way","_law_many","_law_cell"] (spM (cC w K cl) 3 Cv):=
 let ⟨_,_,Om,On⟩:=Bg; cQ (C:=cC w K cl) (k:=1) (N:=["_law_way","_law_many","_law_cell","_law_number","_law_first"]) (body:=KR) (fun _ _ _ h=>h) hbn F EI fun cdv A outer s H E=>
 (aG (bB (i:=3) EI.nd (s_call Om On (aD (aA 2) (aD aH aI))))
 (aG (mE (cA Ej (aA 0) aH)
  (aO (bW (gO (aD jS aI))))
  eJ)
 (aG (mE (SW.t (w_and (cA tY (aA 0) aH) (Eh (cA Nr (aA 1) aH))))
  (aG (bB (i:=4) EI.nd (aL bQ aH (aL dZ (aA 3) (aA 1))))
  (aO (bW (gO (aD jS (aD (aA 4) (aD (aL bQ (aA 4) (aL dZ (aL jF (aA 3) aH) (aL G6 (aL bQ (aA 1) aH) (aA 4)))) aI)))))))
  eJ)
 (aO (bW (gO (aD jS (aD (gO (aD jS (aD aH aI))) (aD (aL dZ (aA 2) (aL K0 aH aH)) aI)))))))))
theorem ES {f:Addr} {fd:c5} (hbn:∀ x∈bsL,mg x=none) (F:Fun K "_law_history" "_law_history" fK f fd) (jC:tB P w K mg base cl) (Lv:Lr P w K mg base cl):aY P w K mg base CX0 3 f fd ["_law_script","_law_hands_here"] (spM (cC w K cl) 2 kT):=
 let ⟨_,_,wG,wH⟩:=jC; let ⟨_,_,TX,TY⟩:=Lv; cQ (C:=cC w K cl) (k:=2) (N:=["_law_script","_law_hands_here","_law_all_counts","_law_rows","_law_cell","_law_who","_law_counts","_law_way","_law_name","_law_deed","_law_other","_law_far","_law_heard"]) (body:=qI) (fun _ _ _ h=>h) hbn F bO fun cdv A outer s H E=>
 (aG (iG (i:=2) bO.nd rfl rfl (js:=[none,some 1]) (N:=oW) rfl rfl (by rfl) (cF (aA 1)) (fun _ _ _ _=>(aR xH)) (fun _ _ _ _=>eK) (fun _ _ _ _=>(cK (js:=[none]) (N:=oX) rfl rfl (by rfl) (cF (aA 1)) (fun _ _ _ _=>(aR xI)) (fun _ _ _ _=>eK) (fun _ _ _ _=>aH))))
 (aG (bB (i:=3) bO.nd (uB aI))
 (aG (rR (cF (aA 0)) (aR bO.nd)
  (aG (bB (i:=5) bO.nd (aL dZ (aA 4) (bK fV PyProof.Rows.Boot.«len» (aD (aA 1) aI) (hb:=dE))))
  (aG (bB (i:=6) bO.nd (bS (aA 2) (aA 5)))
  (aG (bB (i:=7) bO.nd (aL dZ (aL jF (aA 4) (bK fV PyProof.Rows.Boot.«len» (aD (aA 1) aI) (hb:=dE))) aH))
  (aO (mE (cA Ej (aA 7) aH)
   (aG (bB (i:=8) bO.nd (gO (aD (bS (aA 1) (aA 5)) (aD (aL bQ (bS (aA 6) (aA 5)) aH) aI))))
   (aG (bB (i:=9) bO.nd (gO (aD (aA 8) (aD (s_call wG wH (aD (aA 1) (aD (aA 6) aI))) (aD (s_call TX TY (aD (aA 7) (aD (bS (aA 6) (aA 5)) (aD (aL jF (aA 4) aH) aI)))) aI)))))
   (aG (qH (aL bQ (bS (aA 6) (aA 5)) aH) (aA 6) (aA 5))
   (aO (Ka (QJ PySem.F.plainAttrs_list PySem.F.slot_list_append PySem.F.type_list_append uF (aA 3) (aD (gO (aD (aA 9) (aD (nQ QE PyProof.Rows.Boot.«list» (aD (aA 6) aI) (hb:=(.tail _ (.tail _ (.tail _ (.tail _ (.head _))))))) aI))) aI)))))))
   (aG (bB (i:=10) bO.nd (aL dZ (aL bQ (aL bQ (aA 5) aH) (aL dZ (aL jF (aA 4) aH) (bK Et PyProof.Rows.Boot.«max» (aD aH (aD (aL G6 (bK fV PyProof.Rows.Boot.«len» (aD (aA 1) aI) (hb:=dE)) aH) aI)) (hb:=Bf)))) (bK fV PyProof.Rows.Boot.«len» (aD (aA 1) aI) (hb:=dE))))
   (aG (bB (i:=11) bO.nd (bS (aA 2) (aA 10)))
   (aG (iG (i:=12) bO.nd rfl rfl (js:=[none,some 1,some 10]) (N:=oY) rfl rfl (by rfl) (cF (aA 3)) (fun _ _ _ _=>(aR xJ)) (fun _ _ _ _=>(hV (cA tY (bS (bS (bS (aA 0) aH) aH) aH) (bS (aA 1) (aA 2))))) (fun _ _ _ _=>(aA 0)))
   (aG (mE (SW.t (w_and (cA Ej (aA 7) aH) (Eh (cA R0 (aA 12) (uB aI)))))
    (aO (bB (i:=11) bO.nd (bS (bS (aA 12) (aL dZ (aL jF (aA 4) aH) (bK fV PyProof.Rows.Boot.«len» (aD (aA 12) aI) (hb:=dE)))) aH)))
    eJ)
   (aO (qH (cK (js:=[none,some 6,some 11]) (N:=oZ) rfl rfl (by rfl) (uE (aD (bK fV PyProof.Rows.Boot.«len» (aD (aA 1) aI) (hb:=dE)) aI) (hb:=kI)) (fun _ _ _ _=>(aR xK)) (fun _ _ _ _=>eK) (fun _ _ _ _=>(bK Et PyProof.Rows.Boot.«max» (aD (bS (aA 1) (aA 0)) (aD (bS (aA 2) (aA 0)) aI)) (hb:=Bf)))) (aA 2) (aA 5)))))))))))))
 (aO (bW (cK (js:=[none]) (N:=pA) rfl rfl (by rfl) (cF (aA 3)) (fun _ _ _ _=>(aR xM)) (fun _ _ _ _=>eK) (fun _ _ _ _=>(bS (aA 0) aH))))))))
theorem Lw {f:Addr} {fd:c5} (hbn:∀ x∈bsL,mg x=none) (F:Fun K "_law_round" "_law_round" lE f fd) (jC:tB P w K mg base cl):aY P w K mg base CX0 2 f fd ["_law_deeds","_law_hands_here"] (spM (cC w K cl) 2 oI):=
 let ⟨_,_,wG,wH⟩:=jC; cQ (C:=cC w K cl) (k:=1) (N:=["_law_deeds","_law_hands_here","_law_counts","_law_seen_here"]) (body:=AW) (fun _ _ _ h=>h) hbn F vP fun cdv A outer s H E=>
 (aG (bB (i:=2) vP.nd (cK (js:=[none,some 0]) (N:=vQ) rfl rfl (by rfl) (cF (aA 1)) (fun _ _ _ _=>(aR CN)) (fun _ _ _ _=>eK) (fun _ _ _ _=>(bK fV PyProof.Rows.Boot.«len» (aD (cK (js:=[none,some 0]) (N:=vR) rfl rfl (by rfl) (cF (aA 1)) (fun _ _ _ _=>(aR CO)) (fun _ _ _ _=>(hV (cA tY (bS (bS (aA 0) aH) aH) (aA 1)))) (fun _ _ _ _=>(aA 0))) aI) (hb:=dE)))))
 (aG (bB (i:=3) vP.nd (s_call wG wH (aD (aA 1) (aD (aA 2) aI))))
 (aO (bW (cK (js:=[none,some 3,some 1,some 2]) (N:=vS) rfl rfl (by rfl) (uE (aD (bK fV PyProof.Rows.Boot.«len» (aD (aA 1) aI) (hb:=dE)) aI) (hb:=kI)) (fun _ _ _ _=>(aR CP)) (fun _ _ _ _=>eK) (fun _ _ _ _=>(gO (aD (gO (aD (bS (aA 2) (aA 0)) (aD (aL bQ (bS (aA 3) (aA 0)) aH) aI))) (aD (aA 1) (aD (gO (aD jS aI)) aI))))))))))
theorem Bh {f:Addr} {fd:c5} (hbn:∀ x∈bsL,mg x=none) (F:Fun K "number_of" "number_of" dI f fd):aY P w K mg base CX0 1 f fd ["deed"] (spM (cC w K cl) 1 cT):=
 cQ (C:=cC w K cl) (k:=0) (N:=["deed"]) (body:=kB) (fun _ _ _ h=>h) hbn F Bc fun cdv A outer s H E=>
 (aO (bW (bS (bS (aA 0) aH) aH)))
theorem ET {f:Addr} {fd:c5} (hbn:∀ x∈bsL,mg x=none) (F:Fun K "last_of" "last_of" fL f fd) (kL:pE P w K mg base cl):aY P w K mg base CX0 4 f fd ["hand","deeds"] (spM (cC w K cl) 2 iH):=
 let ⟨_,_,D4,D5⟩:=kL; cQ (C:=cC w K cl) (k:=3) (N:=["hand","deeds"]) (body:=qJ) (fun _ _ _ h=>h) hbn F EJ fun cdv A outer s H E=>
 (aO (bW (R1 D4 D5 (cK (js:=[none,some 0]) (N:=pB) rfl rfl (by rfl) (cF (aA 1)) (fun _ _ _ _=>(aR xO)) (fun _ _ _ _=>(hV (cA tY (bS (bS (aA 0) aH) aH) (aA 1)))) (fun _ _ _ _=>(aA 0))) (hb:=Bf))))
theorem Lx {f:Addr} {fd:c5} (hbn:∀ x∈bsL,mg x=none) (F:Fun K "stamp" "stamp" lF f fd):aY P w K mg base CX0 1 f fd ["deed"] (spM (cC w K cl) 1 gX):=
 cQ (C:=cC w K cl) (k:=0) (N:=["deed"]) (body:=oJ) (fun _ _ _ h=>h) hbn F Lq fun cdv A outer s H E=>
 (aO (bW (aL bQ aH (bK Tf PyProof.Rows.Boot.«sum» (aD (cK (js:=[none]) (N:=vT) rfl rfl (by rfl) (cF (bS (aA 0) aH)) (fun _ _ _ _=>(aR CQ)) (fun _ _ _ _=>eK) (fun _ _ _ _=>(bS (aA 0) aH))) aI) (hb:=(.tail _ (.tail _ (.tail _ (.tail _ (.tail _ (.tail _ (.head _))))))))))))
theorem Ly {f:Addr} {fd:c5} (hbn:∀ x∈bsL,mg x=none) (F:Fun K "bound" "bound" lG f fd) (fP:mT P w K mg base cl) (dB:kJ P w K mg base cl):aY P w K mg base CX0 5 f fd ["hands","deeds"] (spM (cC w K cl) 2 kU):=
 let ⟨_,_,qT,qU⟩:=fP; let ⟨_,_,jD,jE⟩:=dB; cQ (C:=cC w K cl) (k:=4) (N:=["hands","deeds","settles","lasts"]) (body:=AX) (fun _ _ _ h=>h) hbn F vU fun cdv A outer s H E=>
 (aG (bB (i:=2) vU.nd (cK (js:=[none]) (N:=vV) rfl rfl (by rfl) (cF (aA 1)) (fun _ _ _ _=>(aR CS)) (fun _ _ _ _=>(hV (cA tY (bS (bS (aA 0) aH) aH) jS))) (fun _ _ _ _=>(aA 0))))
 (aG (iG (i:=3) vU.nd rfl rfl (js:=[none,some 2]) (N:=vW) rfl rfl (by rfl) (cF (aA 0)) (fun _ _ _ _=>(aR CT)) (fun _ _ _ _=>eK) (fun _ _ _ _=>(s_call qT qU (aD (aA 0) (aD (aA 1) aI)))))
 (aO (bW (bK QU PyProof.Rows.Boot.«min» (aD (cK (js:=[none]) (N:=vX) rfl rfl (by rfl) (cF (aA 3)) (fun _ _ _ _=>(aR CU)) (fun _ _ _ _=>eK) (fun _ _ _ _=>(G8 (cA SH (aA 0) G3) aH (s_call jD jE (aD (aA 0) aI))))) aI) (hb:=(.tail _ (.tail _ (.tail _ (.tail _ (.tail _ (.tail _ (.tail _ (.head _))))))))))))))
theorem Ia {f:Addr} {fd:c5} (hbn:∀ x∈bsL,mg x=none) (F:Fun K "joined" "joined" iM f fd):aY P w K mg base CX0 1 f fd ["one","other"] (spM (cC w K cl) 2 oK):=
 cQ (C:=cC w K cl) (k:=0) (N:=["one","other","numbers","hand","n"]) (body:=vD) (fun _ _ _ h=>h) hbn F lH fun cdv A outer s H E=>
 (aG (bB (i:=2) lH.nd (nQ NS PyProof.Rows.Boot.«dict» (aD (aA 0) aI) (hb:=(.tail _ (.tail _ (.tail _ (.tail _ (.tail _ (.tail _ (.tail _ (.tail _ (.head _))))))))))))
 (aG (rR (cF (aA 1)) (C8 (fW (aR lH.nd) (fW (aR lH.nd) C7)))
  (aO (qH (bK Et PyProof.Rows.Boot.«max» (aD (aA 4) (aD (QP g9 d8 PySem.F.type_dict_get Po (aA 2) (aD (aA 3) (aD (aA 4) aI))) aI)) (hb:=Bf)) (aA 2) (aA 3))))
 (aO (bW (nQ G9 PyProof.Rows.Boot.«tuple» (aD (bK Cd PyProof.Rows.Boot.«sorted» (aD (Pn g9 PySem.F.slot_dict_items PySem.F.type_dict_items NM (aA 2)) aI) (hb:=lJ)) aI) (hb:=D0))))))
theorem EU {f:Addr} {fd:c5} (hbn:∀ x∈bsL,mg x=none) (F:Fun K "widened" "widened" fM f fd) (wI:A2 P w K mg base cl):aY P w K mg base CX0 2 f fd ["seen","name"] (spM (cC w K cl) 2 kW):=
 let ⟨_,_,Lz,LA⟩:=wI; cQ (C:=cC w K cl) (k:=1) (N:=["seen","name"]) (body:=qK) (fun _ _ _ h=>h) hbn F EK fun cdv A outer s H E=>
 (aO (bW (s_call Lz LA (aD (aA 0) (aD (gO (aD (aA 1) aI)) aI)))))
theorem LB {f:Addr} {fd:c5} (hbn:∀ x∈bsL,mg x=none) (F:Fun K "known" "known" lI f fd) (fP:mT P w K mg base cl) (qV:wB P w K mg base cl):aY P w K mg base CX0 5 f fd ["hand","deeds"] (spM (cC w K cl) 2 oM):=
 let ⟨_,_,qT,qU⟩:=fP; let ⟨_,_,Ib,Ic⟩:=qV; cQ (C:=cC w K cl) (k:=4) (N:=["hand","deeds","last"]) (body:=AY) (fun _ _ _ h=>h) hbn F CV fun cdv A outer s H E=>
 (aG (bB (i:=2) CV.nd (s_call qT qU (aD (aA 0) (aD (aA 1) aI))))
 (aO (bW (G8 (cA SH (aA 2) G3) (gO aI) (s_call Ib Ic (aD (bS (aA 2) aH) (aD (bS (aA 2) aH) aI)))))))
theorem Oo {f:Addr} {fd:c5} (hbn:∀ x∈bsL,mg x=none) (F:Fun K "rank" "rank" qQ f fd) (dB:kJ P w K mg base cl):aY P w K mg base CX0 2 f fd ["deed"] (spM (cC w K cl) 1 AZ):=
 let ⟨_,_,jD,jE⟩:=dB; cQ (C:=cC w K cl) (k:=1) (N:=["deed","hand","n"]) (body:=Ex) (fun _ _ _ h=>h) hbn F Be fun cdv A outer s H E=>
 (aG (K' (bS (aA 0) aH) (C8 (fW (aR Be.nd) (fW (aR Be.nd) C7))))
 (aO (bW (gO (aD (s_call jD jE (aD (aA 0) aI)) (aD (aA 1) (aD (aA 2) aI)))))))
theorem D6 {f:Addr} {fd:c5} (hbn:∀ x∈bsL,mg x=none) (F:Fun K "in_order" "in_order" eP f fd) (EV:GF P w K mg base cl):aY P w K mg base CX0 5 f fd ["deeds"] (spM (cC w K cl) 1 cH):=
 let ⟨_,_,Rg,Rh⟩:=EV; cQ (C:=cC w K cl) (k:=4) (N:=["deeds","by_name","deed"]) (body:=mN) (fun _ _ _ h=>h) hbn F kG fun cdv A outer s H E=>
 (aG (bB (i:=1) kG.nd AB)
 (aG (rR (cF (aA 0)) (aR kG.nd)
  (aO (qH (aA 2) (aA 1) (bS (aA 2) aH))))
 (aO (bW (NP Rg Rh (Pn g9 PySem.F.slot_dict_values PySem.F.type_dict_values m_values (aA 1)) (hb:=lJ))))))
theorem Ie {f:Addr} {fd:c5} (hbn:∀ x∈bsL,mg x=none) (F:Fun K "covers" "covers" iN f fd):aY P w K mg base CX0 1 f fd ["seen","name"] (spM (cC w K cl) 2 iI):=
 cQ (C:=cC w K cl) (k:=0) (N:=["seen","name","hand","n"]) (body:=vF) (fun _ _ _ h=>h) hbn F qR fun cdv A outer s H E=>
 (aG (rR (cF (aA 0)) (C8 (fW (aR qR.nd) (fW (aR qR.nd) C7)))
  (aO (mE (cA tY (aA 2) (bS (aA 1) aH))
   (aO (bW (SD K2 (bS (aA 1) aH) (aA 3))))
   eJ)))
 (aO (bW JW)))
theorem Oq {f:Addr} {fd:c5} (hbn:∀ x∈bsL,mg x=none) (F:Fun K "sunk" "sunk" qS f fd) (dB:kJ P w K mg base cl) (fH:pF P w K mg base cl) (lK:wC P w K mg base cl) (cI:gZ P w K mg base cl) (wJ:A3 P w K mg base cl):aY P w K mg base CX0 6 f fd ["hands","deeds"] (spM (cC w K cl) 2 B0):=
 let ⟨_,_,jD,jE⟩:=dB; let ⟨_,_,pG,pH⟩:=fH; let ⟨_,_,Bi,Bj⟩:=lK; let ⟨_,_,gG,gH⟩:=cI; let ⟨_,_,LC,LD⟩:=wJ; cQ (C:=cC w K cl) (k:=5) (N:=["hands","deeds","highest","low","seens"]) (body:=Ey) (fun _ _ _ h=>h) hbn F sZ fun cdv A outer s H E=>
 (aG (bB (i:=2) sZ.nd (s_call pG pH (aD (aA 0) (aD (aA 1) aI))))
 (aG (iG (i:=3) sZ.nd rfl rfl (js:=[none,some 2]) (N:=zY) rfl rfl (by rfl) (cF (s_call gG gH (aD (aA 1) aI))) (fun _ _ _ _=>(aR EL)) (fun _ _ _ _=>(hV (cA K2 (s_call jD jE (aD (aA 0) aI)) (aA 1)))) (fun _ _ _ _=>(bS (aA 0) aH)))
 (aG (bB (i:=4) sZ.nd (cK (js:=[none,some 1]) (N:=zZ) rfl rfl (by rfl) (cF (aA 0)) (fun _ _ _ _=>(aR EM)) (fun _ _ _ _=>eK) (fun _ _ _ _=>(s_call Bi Bj (aD (aA 0) (aD (aA 1) aI))))))
 (aO (bW (cK (js:=[none,some 4]) (N:=A0) rfl rfl (by rfl) (cF (aA 3)) (fun _ _ _ _=>(aR EN)) (fun _ _ _ _=>(hV (SJ (bK Tg PyProof.Rows.Boot.«all» (aD (cK (js:=[none,some 0]) (N:=A1) rfl rfl (by rfl) (cF (aA 1)) (fun _ _ _ _=>(aR EO)) (fun _ _ _ _=>eK) (fun _ _ _ _=>(s_call LC LD (aD (aA 0) (aD (aA 1) aI))))) aI) (hb:=(.tail _ (.tail _ (.tail _ (.tail _ (.tail _ (.tail _ (.tail _ (.tail _ (.tail _ (.head _))))))))))))))) (fun _ _ _ _=>(aA 0))))))))
theorem EW {f:Addr} {fd:c5} (hbn:∀ x∈bsL,mg x=none) (F:Fun K "name_of" "name_of" fN f fd):aY P w K mg base CX0 1 f fd ["deed"] (spM (cC w K cl) 1 iJ):=
 cQ (C:=cC w K cl) (k:=0) (N:=["deed"]) (body:=qL) (fun _ _ _ h=>h) hbn F ER fun cdv A outer s H E=>
 (aO (bW (bS (aA 0) aH)))
theorem D7 {f:Addr} {fd:c5} (hbn:∀ x∈bsL,mg x=none) (F:Fun K "taker_of" "taker_of" eQ f fd):aY P w K mg base CX0 1 f fd ["n","backs"] (spM (cC w K cl) 2 jA):=
 cQ (C:=cC w K cl) (k:=0) (N:=["n","backs","back","word","first","last"]) (body:=mO) (fun _ _ _ h=>h) hbn F fC fun cdv A outer s H E=>
 (aG (rR (cF (aA 1)) (aR fC.nd)
  (aG (K' (bS (aA 2) aH) (C8 (fW (aR fC.nd) (fW (aR fC.nd) (fW (aR fC.nd) C7)))))
  (aO (mE (SK K2 K2 (aA 4) (aA 0) (aA 5))
   (aO (bW (bS (aA 2) aH)))
   eJ))))
 (aO (bW G3)))
theorem Ig {f:Addr} {fd:c5} (hbn:∀ x∈bsL,mg x=none) (F:Fun K "takers" "takers" iO f fd) (qW:wD P w K mg base cl) (mU:rZ P w K mg base cl):aY P w K mg base CX0 4 f fd ["deeds"] (spM (cC w K cl) 1 oQ):=
 let ⟨_,_,Ih,Ii⟩:=qW; let ⟨_,_,EX,EY⟩:=mU; cQ (C:=cC w K cl) (k:=3) (N:=["deeds","taken","backs","deed","hand","n","word","by"]) (body:=vH) (fun _ _ _ h=>h) hbn F dJ fun cdv A outer s H E=>
 (aG (bB (i:=1) dJ.nd AB)
 (aG (bB (i:=2) dJ.nd AB)
 (aG (rR (cF (KC Ih Ii (aA 0) (hb:=lJ))) (aR dJ.nd)
  (aG (K' (bS (aA 3) aH) (C8 (fW (aR dJ.nd) (fW (aR dJ.nd) C7))))
  (aG (bB (i:=6) dJ.nd (bS (bS (aA 3) aH) aH))
  (aG (mE (cA tY (aA 6) jS)
   (aG (qH (uB aI) (aA 2) (aA 4))
   (aO SU))
   eJ)
  (aG (bB (i:=7) dJ.nd (s_call EX EY (aD (aA 5) (aD (QP g9 d8 PySem.F.type_dict_get Po (aA 2) (aD (aA 4) (aD (uB aI) aI))) aI))))
  (aO (mE (cA Nu (aA 7) G3)
   (aO (qH (aA 7) (aA 1) (bS (aA 3) aH)))
   (aO (mE (cA tY (aA 6) jS)
    (aO (Ka (QJ PySem.F.plainAttrs_list PySem.F.slot_list_append PySem.F.type_list_append uF (QP g9 j5 PySem.F.type_dict_setdefault AL (aA 2) (aD (aA 4) (aD (uB aI) aI))) (aD (aA 3) aI))))
    eJ)))))))))
 (aO (bW (aA 1))))))
theorem D8 {f:Addr} {fd:c5} (hbn:∀ x∈bsL,mg x=none) (F:Fun K "in_force" "in_force" eR f fd) (cI:gZ P w K mg base cl) (wK:A4 P w K mg base cl):aY P w K mg base CX0 6 f fd ["deeds"] (spM (cC w K cl) 1 eO):=
 let ⟨_,_,gG,gH⟩:=cI; let ⟨_,_,LF,LG⟩:=wK; cQ (C:=cC w K cl) (k:=5) (N:=["deeds","ordered","taken"]) (body:=mQ) (fun _ _ _ h=>h) hbn F kH fun cdv A outer s H E=>
 (aG (bB (i:=1) kH.nd (s_call gG gH (aD (aA 0) aI)))
 (aG (bB (i:=2) kH.nd (s_call LF LG (aD (aA 1) aI)))
 (aO (bW (cK (js:=[none,some 2]) (N:=lU) rfl rfl (by rfl) (cF (aA 1)) (fun _ _ _ _=>(aR vY)) (fun _ _ _ _=>(hV (cA Ku (bS (aA 0) aH) (aA 1)))) (fun _ _ _ _=>(aA 0)))))))
theorem EZ {f:Addr} {fd:c5} (hbn:∀ x∈bsL,mg x=none) (F:Fun K "settled" "settled" fO f fd) (dB:kJ P w K mg base cl) (fH:pF P w K mg base cl) (eT:kK P w K mg base cl):aY P w K mg base CX0 7 f fd ["hands","deeds"] (spM (cC w K cl) 2 kX):=
 let ⟨_,_,jD,jE⟩:=dB; let ⟨_,_,pG,pH⟩:=fH; let ⟨_,_,mW,mX⟩:=eT; cQ (C:=cC w K cl) (k:=6) (N:=["hands","deeds","highest"]) (body:=qM) (fun _ _ _ h=>h) hbn F vZ fun cdv A outer s H E=>
 (aG (bB (i:=2) vZ.nd (s_call pG pH (aD (aA 0) (aD (aA 1) aI))))
 (aO (bW (cK (js:=[none,some 2]) (N:=pC) rfl rfl (by rfl) (cF (s_call mW mX (aD (aA 1) aI))) (fun _ _ _ _=>(aR xP)) (fun _ _ _ _=>(hV (cA K2 (s_call jD jE (aD (aA 0) aI)) (aA 1)))) (fun _ _ _ _=>(aA 0))))))
theorem Ri {f:Addr} {fd:c5} (hbn:∀ x∈bsL,mg x=none) (F:Fun K "law" "law" pD f fd) (Bk:D1 P w K mg base cl) (jC:tB P w K mg base cl) (qX:wA P w K mg base cl) (Bl:D3 P w K mg base cl) (fH:pF P w K mg base cl) (lK:wC P w K mg base cl) (cI:gZ P w K mg base cl) (F0:GG P w K mg base cl) (eT:kK P w K mg base cl) (qY:wF P w K mg base cl):aY P w K mg base CX0 8 f fd ["_law_script"] (spM (cC w K cl) 1 KU):=
 let ⟨_,_,Os,Ot⟩:=Bk; let ⟨_,_,wG,wH⟩:=jC; let ⟨_,_,Ij,Ik⟩:=qX; let ⟨_,_,GH,GI⟩:=Bl; let ⟨_,_,pG,pH⟩:=fH; let ⟨_,_,Bi,Bj⟩:=lK; let ⟨_,_,gG,gH⟩:=cI; let ⟨_,_,Rj,Rk⟩:=F0; let ⟨_,_,mW,mX⟩:=eT; let ⟨_,_,Il,Im⟩:=qY; cQ (C:=cC w K cl) (k:=7) (N:=["_law_script","_law_cell","_law_hands_here","_law_deeds","_law_last","_law_many","_law_plain","_law_at","_law_turned","_law_due","_law_counts","_law_k"]) (body:=KS) (fun _ _ _ h=>h) hbn F dC fun cdv A outer s H E=>
 (aG (bB (i:=1) dC.nd aH)
 (aG (mE (cA Nr (bK fV PyProof.Rows.Boot.«len» (aD (aA 0) aI) (hb:=dE)) aH)
  (aO (bB (i:=1) dC.nd (bS (aA 0) aH)))
  eJ)
 (aG (bB (i:=2) dC.nd (s_call Os Ot (aD (aA 1) aI)))
 (aG (bB (i:=3) dC.nd (s_call Ij Ik (aD (K9 (aA 0) (pZ aH) (pZ aH)) (aD (aA 2) aI))))
 (aG (bB (i:=3) dC.nd (aL bQ (aA 3) (s_call GH GI (aD (aA 3) (aD (aA 2) aI)))))
 (aG (bB (i:=4) dC.nd (s_call GH GI (aD (aA 3) (aD (aA 2) aI))))
 (aG (bB (i:=5) dC.nd (bK fV PyProof.Rows.Boot.«len» (aD (aA 3) aI) (hb:=dE)))
 (aG (bB (i:=6) dC.nd (aL bQ (aA 3) (aA 4)))
 (aG (bB (i:=7) dC.nd (aL dZ (aL jF (aA 1) aH) (bK fV PyProof.Rows.Boot.«len» (aD (aA 6) aI) (hb:=dE))))
 (aG (bB (i:=8) dC.nd (aL bQ (K9 (aA 6) (pZ (aA 7)) Az) (NR (K9 (aA 6) Az (pZ (aA 7))) (UV SY aH))))
 (aG (mE (SW.t (w_or (cA K3 (s_call pG pH (aD (aA 2) (aD (aA 8) aI))) (aL bQ (aA 5) aH)) (SM (cA K3 (s_call Il Im (aD (aA 2) (aD (aA 8) aI))) (s_call mW mX (aD (aA 6) aI))))))
  (aO (bW JW))
  eJ)
 (aG (bB (i:=9) dC.nd (aA 3))
 (aG (mE (cA tY (bK fV PyProof.Rows.Boot.«len» (aD (aA 2) aI) (hb:=dE)) aH)
  (aO (bB (i:=9) dC.nd (aA 6)))
  eJ)
 (aG (mE (cA K3 (s_call Rj Rk (aD (aA 2) (aD (aA 8) aI))) (cK (js:=[none]) (N:=CW) rfl rfl (by rfl) (cF (s_call gG gH (aD (aA 9) aI))) (fun _ _ _ _=>(aR HY)) (fun _ _ _ _=>eK) (fun _ _ _ _=>(bS (aA 0) aH))))
  (aO (bW JW))
  eJ)
 (aG (iG (i:=10) dC.nd rfl rfl (js:=[none,some 3]) (N:=CY) rfl rfl (by rfl) (cF (aA 2)) (fun _ _ _ _=>(aR HZ)) (fun _ _ _ _=>eK) (fun _ _ _ _=>(bK fV PyProof.Rows.Boot.«len» (aD (cK (js:=[none,some 0]) (N:=CZ) rfl rfl (by rfl) (cF (aA 1)) (fun _ _ _ _=>(aR I0)) (fun _ _ _ _=>(hV (cA tY (bS (bS (aA 0) aH) aH) (aA 1)))) (fun _ _ _ _=>(aA 0))) aI) (hb:=dE))))
 (aG (rR (uE (aD (bK fV PyProof.Rows.Boot.«len» (aD (aA 2) aI) (hb:=dE)) aI) (hb:=kI)) (aR dC.nd)
  (aO (mE (cA K3 (s_call Bi Bj (aD (bS (aA 2) (aA 11)) (aD (aA 8) aI))) (s_call wG wH (aD (aA 2) (aD (aL bQ (aL bQ (K9 (aA 10) Az (pZ (aA 11))) (uB (aD (aL bQ (bS (aA 10) (aA 11)) aH) aI))) (K9 (aA 10) (pZ (aL bQ (aA 11) aH)) Az)) aI))))
   (aO (bW JW))
   eJ)))
 (aO (bW JW))))))))))))))))))
end
noncomputable def spL (K:af):Sp:=fun vs H Q _=>∃ (a:Addr) (ns:List Int),vs=[.ref a]/\JB H/\SqL K H a (ns.map V.int)/\ns.length<=63/\∀ H',Q (.bl true) H'
@[elab_as_elim] theorem D9 {P:List Value->Prop} (us:List Value) (hl:us.length=1) (h:∀ a0,P [a0]):P us:=by
 cases us with
 | nil=>cases hl
 | cons a0 us=>
  cases us with
  | nil=>exact h a0
  | cons b us=>
   simp only [dk] at hl;omega
@[elab_as_elim] theorem qZ {P:List Value->Prop} (us:List Value) (hl:us.length=2) (h:∀ a0 a1,P [a0,a1]):P us:=by
 cases us with
 | nil=>cases hl
 | cons a0 us=>
  cases us with
  | nil=>cases hl
  | cons a1 us=>
   cases us with
   | nil=>exact h a0 a1
   | cons b us=>
    simp only [dk] at hl;omega
@[elab_as_elim] theorem Vl {P:List Value->Prop} (us:List Value) (hl:us.length=3) (h:∀ a0 a1 a2,P [a0,a1,a2]):P us:=by
 cases us with
 | nil=>cases hl
 | cons a0 us=>
  cases us with
  | nil=>cases hl
  | cons a1 us=>
   cases us with
   | nil=>cases hl
   | cons a2 us=>
    cases us with
    | nil=>exact h a0 a1 a2
    | cons b us=>
     simp only [dk] at hl;omega
theorem all_mk {l:PySem.W.OpenLaw} {w:World} {K:af} {h:Heap} {mg:Str->Option Value} {fa Bm F1 Bn LH rA Bo kM rB Bp Bq wL rC Br F2 mY wM F3 rD mZ wN nA rE LI:Addr} (X:K.In h) (G:h.Ns cf mg) (hfa:mg "law" = some (.ref fa)) (hbn:∀ x∈bsL,mg x=none)
  (Ou:c6 K cf "_law_hands" = some (some (.ref Bm)))
  {LJ LK Ip LL A5 LM:Value} {LN LO:Option Addr} {Iq:Array (Option Value)}
  (Ov:K.lookup Bm=some ⟨LJ,LN,.func (b9 "_law_hands" "_law_hands" (aU kY) (aQ kY) (aF kY) .none LK Ip LL LO A5 LM),Iq⟩)
  (Ow:cb K A5 "_law_hands" = true)
  (Ox:bp K (.ref Bm)=true)
  (Rl:c6 K cf "_law_seen" = some (some (.ref F1)))
  {Oy Oz LP OA Da OB:Value} {OC OD:Option Addr} {LQ:Array (Option Value)}
  (Rm:K.lookup F1=some ⟨Oy,OC,.func (b9 "_law_seen" "_law_seen" (aU qP) (aQ qP) (aF qP) .none Oz LP OA OD Da OB),LQ⟩)
  (Rn:cb K Da "_law_seen" = true)
  (Ro:bp K (.ref F1)=true)
  (OE:c6 K cf "_law_mixed" = some (some (.ref Bn)))
  {LR LS Ir LU A6 LV:Value} {LW LX:Option Addr} {Iu:Array (Option Value)}
  (OF:K.lookup Bn=some ⟨LR,LW,.func (b9 "_law_mixed" "_law_mixed" (aU kZ) (aQ kZ) (aF kZ) .none LS Ir LU LX A6 LV),Iu⟩)
  (OG:cb K A6 "_law_mixed" = true)
  (OH:bp K (.ref Bn)=true)
  (TZ:c6 K cf "_law_act" = some (some (.ref LH)))
  {Rp Rq OI Rr GJ Rt:Value} {Ru Rv:Option Addr} {OJ:Array (Option Value)}
  (U0:K.lookup LH=some ⟨Rp,Ru,.func (b9 "_law_act" "_law_act" (aU zX) (aQ zX) (aF zX) .none Rq OI Rr Rv GJ Rt),OJ⟩)
  (U1:cb K GJ "_law_act" = true)
  (U2:bp K (.ref LH)=true)
  (Iv:c6 K cf "_law_history" = some (some (.ref rA)))
  {F4 F5 Dc F6 sA F7:Value} {F8 F9:Option Addr} {Df:Array (Option Value)}
  (Iw:K.lookup rA=some ⟨F4,F8,.func (b9 "_law_history" "_law_history" (aU fK) (aQ fK) (aF fK) .none F5 Dc F6 F9 sA F7),Df⟩)
  (Iy:cb K sA "_law_history" = true)
  (Iz:bp K (.ref rA)=true)
  (OK:c6 K cf "_law_round" = some (some (.ref Bo)))
  {LY LZ IA M0 A7 M3:Value} {M4 M5:Option Addr} {IB:Array (Option Value)}
  (OL:K.lookup Bo=some ⟨LY,M4,.func (b9 "_law_round" "_law_round" (aU lE) (aQ lE) (aF lE) .none LZ IA M0 M5 A7 M3),IB⟩)
  (OM:cb K A7 "_law_round" = true)
  (ON:bp K (.ref Bo)=true)
  (Dg:c6 K cf "number_of" = some (some (.ref kM)))
  {Bs Bt xQ Bu lV Bv:Value} {Bw Bx:Option Addr} {xR:Array (Option Value)}
  (Dh:K.lookup kM=some ⟨Bs,Bw,.func (b9 "number_of" "number_of" (aU dI) (aQ dI) (aF dI) .none Bt xQ Bu Bx lV Bv),xR⟩)
  (Di:cb K lV "number_of" = true)
  (Dj:bp K (.ref kM)=true)
  (IC:c6 K cf "last_of" = some (some (.ref rB)))
  {Fb Fc Dk Fd sC Fe:Value} {Ff Fg:Option Addr} {Dl:Array (Option Value)}
  (ID:K.lookup rB=some ⟨Fb,Ff,.func (b9 "last_of" "last_of" (aU fL) (aQ fL) (aF fL) .none Fc Dk Fd Fg sC Fe),Dl⟩)
  (IE:cb K sC "last_of" = true)
  (IF:bp K (.ref rB)=true)
  (OO:c6 K cf "stamp" = some (some (.ref Bp)))
  {M6 M7 IG M8 A8 M9:Value} {M' Mb:Option Addr} {IH:Array (Option Value)}
  (OP:K.lookup Bp=some ⟨M6,M',.func (b9 "stamp" "stamp" (aU lF) (aQ lF) (aF lF) .none M7 IG M8 Mb A8 M9),IH⟩)
  (OQ:cb K A8 "stamp" = true)
  (OR:bp K (.ref Bp)=true)
  (OS:c6 K cf "bound" = some (some (.ref Bq)))
  {Mc Md II Mf A9 Mh:Value} {Mj Ml:Option Addr} {IJ:Array (Option Value)}
  (OT:K.lookup Bq=some ⟨Mc,Mj,.func (b9 "bound" "bound" (aU lG) (aQ lG) (aF lG) .none Md II Mf Ml A9 Mh),IJ⟩)
  (OU:cb K A9 "bound" = true)
  (OV:bp K (.ref Bq)=true)
  (Mm:c6 K cf "joined" = some (some (.ref wL)))
  {IK IL Fh IM wO IP:Value} {IQ IR:Option Addr} {Fi:Array (Option Value)}
  (Mn:K.lookup wL=some ⟨IK,IQ,.func (b9 "joined" "joined" (aU iM) (aQ iM) (aF iM) .none IL Fh IM IR wO IP),Fi⟩)
  (Mp:cb K wO "joined" = true)
  (Mq:bp K (.ref wL)=true)
  (IS:c6 K cf "widened" = some (some (.ref rC)))
  {Fj Fk Dm Fm sD Fo:Value} {Fp Fq:Option Addr} {Dn:Array (Option Value)}
  (IT:K.lookup rC=some ⟨Fj,Fp,.func (b9 "widened" "widened" (aU fM) (aQ fM) (aF fM) .none Fk Dm Fm Fq sD Fo),Dn⟩)
  (IU:cb K sD "widened" = true)
  (IV:bp K (.ref rC)=true)
  (OW:c6 K cf "known" = some (some (.ref Br)))
  {Mr Mt IW Mu Aa Mv:Value} {Mw Mx:Option Addr} {IX:Array (Option Value)}
  (OX:K.lookup Br=some ⟨Mr,Mw,.func (b9 "known" "known" (aU lI) (aQ lI) (aF lI) .none Mt IW Mu Mx Aa Mv),IX⟩)
  (OY:cb K Aa "known" = true)
  (OZ:bp K (.ref Br)=true)
  (Rw:c6 K cf "rank" = some (some (.ref F2)))
  {P0 P1 My P2 Do P3:Value} {P4 P5:Option Addr} {Mz:Array (Option Value)}
  (Rx:K.lookup F2=some ⟨P0,P4,.func (b9 "rank" "rank" (aU qQ) (aQ qQ) (aF qQ) .none P1 My P2 P5 Do P3),Mz⟩)
  (Ry:cb K Do "rank" = true)
  (Rz:bp K (.ref F2)=true)
  (Fs:c6 K cf "in_order" = some (some (.ref mY)))
  {Dp Dq By Dr pI Ds:Value} {Dt Du:Option Addr} {Bz:Array (Option Value)}
  (Ft:K.lookup mY=some ⟨Dp,Dt,.func (b9 "in_order" "in_order" (aU eP) (aQ eP) (aF eP) .none Dq By Dr Du pI Ds),Bz⟩)
  (Fu:cb K pI "in_order" = true)
  (Fv:bp K (.ref mY)=true)
  (MA:c6 K cf "covers" = some (some (.ref wM)))
  {IY IZ Fw J1 wQ J2:Value} {J3 J4:Option Addr} {Fx:Array (Option Value)}
  (MB:K.lookup wM=some ⟨IY,J3,.func (b9 "covers" "covers" (aU iN) (aQ iN) (aF iN) .none IZ Fw J1 J4 wQ J2),Fx⟩)
  (MD:cb K wQ "covers" = true)
  (ME:bp K (.ref wM)=true)
  (RA:c6 K cf "sunk" = some (some (.ref F3)))
  {P6 P7 MF P8 Dv P9:Value} {P' Pa:Option Addr} {MG:Array (Option Value)}
  (RB:K.lookup F3=some ⟨P6,P',.func (b9 "sunk" "sunk" (aU qS) (aQ qS) (aF qS) .none P7 MF P8 Pa Dv P9),MG⟩)
  (RC:cb K Dv "sunk" = true)
  (RD:bp K (.ref F3)=true)
  (J5:c6 K cf "name_of" = some (some (.ref rD)))
  {Fy Fz Dw FA sE FB:Value} {FC FD:Option Addr} {Dx:Array (Option Value)}
  (J6:K.lookup rD=some ⟨Fy,FC,.func (b9 "name_of" "name_of" (aU fN) (aQ fN) (aF fN) .none Fz Dw FA FD sE FB),Dx⟩)
  (J7:cb K sE "name_of" = true)
  (J8:bp K (.ref rD)=true)
  (FF:c6 K cf "taker_of" = some (some (.ref mZ)))
  {Dy Dz BA DA pJ DB:Value} {DC DD:Option Addr} {BB:Array (Option Value)}
  (FG:K.lookup mZ=some ⟨Dy,DC,.func (b9 "taker_of" "taker_of" (aU eQ) (aQ eQ) (aF eQ) .none Dz BA DA DD pJ DB),BB⟩)
  (FH:cb K pJ "taker_of" = true)
  (FI:bp K (.ref mZ)=true)
  (MH:c6 K cf "takers" = some (some (.ref wN)))
  {J9 J' FJ Ja wR Jb:Value} {Jc Jd:Option Addr} {FK:Array (Option Value)}
  (MI:K.lookup wN=some ⟨J9,Jc,.func (b9 "takers" "takers" (aU iO) (aQ iO) (aF iO) .none J' FJ Ja Jd wR Jb),FK⟩)
  (MJ:cb K wR "takers" = true)
  (MK:bp K (.ref wN)=true)
  (FL:c6 K cf "in_force" = some (some (.ref nA)))
  {DE DF BC DG pK DH:Value} {DI DJ:Option Addr} {BD:Array (Option Value)}
  (FM:K.lookup nA=some ⟨DE,DI,.func (b9 "in_force" "in_force" (aU eR) (aQ eR) (aF eR) .none DF BC DG DJ pK DH),BD⟩)
  (FN:cb K pK "in_force" = true)
  (FO:bp K (.ref nA)=true)
  (Je:c6 K cf "settled" = some (some (.ref rE)))
  {FP FQ DK FS sF FT:Value} {FU FV:Option Addr} {DL:Array (Option Value)}
  (Jf:K.lookup rE=some ⟨FP,FU,.func (b9 "settled" "settled" (aU fO) (aQ fO) (aF fO) .none FQ DK FS FV sF FT),DL⟩)
  (Jg:cb K sF "settled" = true)
  (Jh:bp K (.ref rE)=true)
  (U3:c6 K cf "law" = some (some (.ref LI)))
  {RF ML GK MM BE MN:Value} {RG MP:Option Addr} {Pb:Array (Option Value)}
  (U4:K.lookup LI=some ⟨RF,RG,.func (b9 "law" "law" (aU pD) (aQ pD) (aF pD) .none ML GK MM MP BE MN),Pb⟩)
  (U5:cb K BE "law" = true)
  (U6:bp K (.ref LI)=true)
  : ∃ fd:c5,(∀ (s:Shared) (v:Value),BindsTo s fd ⟨[v],[]⟩ [("_law_script",v)])/\∀ base:Heap,K.In base->base.Ns cf mg->aY l.prog w K mg base CX0 8 fa fd ["_law_script"] (spL K):=by
 have e:=hfa.symm.trans (PySem.W.mg_of X G U3);cases e
 refine ⟨b9 "law" "law" (aU pD) (aQ pD) (aF pD) .none ML GK MM MP BE MN,fun s v=>.of_eq rfl,fun base _ _=>?_⟩;have Bk:D1 l.prog w K mg base (fun z=>none):=gJ (Def.mk' X G Ou Ov Ow Ox (fun _ _ _ _ _ _ us hl=>D9 us hl fun _=>rfl)) fun F=>Ls (cl:=fun z=>none) hbn F;have jC:tB l.prog w K mg base (fun z=>none):=gJ (Def.mk' X G Rl Rm Rn Ro (fun _ _ _ _ _ _ us hl=>qZ us hl fun _ _=>rfl)) fun F=>Ol (cl:=fun z=>none) hbn F;have Bg:D2 l.prog w K mg base (fun z=>none):=gJ (Def.mk' X G OE OF OG OH (fun _ _ _ _ _ _ us hl=>qZ us hl fun _ _=>rfl)) fun F=>Lu (cl:=fun z=>none) hbn F;have Lv:Lr l.prog w K mg base (fun z=>none):=gJ (Def.mk' X G TZ U0 U1 U2 (fun _ _ _ _ _ _ us hl=>Vl us hl fun _ _ _=>rfl)) fun F=>Rf (cl:=fun z=>none) hbn F Bg;have qX:wA l.prog w K mg base (fun z=>none):=gJ (Def.mk' X G Iv Iw Iy Iz (fun _ _ _ _ _ _ us hl=>qZ us hl fun _ _=>rfl)) fun F=>ES (cl:=fun z=>none) hbn F jC Lv;have Bl:D3 l.prog w K mg base (fun z=>none):=gJ (Def.mk' X G OK OL OM ON (fun _ _ _ _ _ _ us hl=>qZ us hl fun _ _=>rfl)) fun F=>Lw (cl:=fun z=>none) hbn F jC;have kL:pE l.prog w K mg base (fun z=>none):=gJ (Def.mk' X G Dg Dh Di Dj (fun _ _ _ _ _ _ us hl=>D9 us hl fun _=>rfl)) fun F=>Bh (cl:=fun z=>none) hbn F;have fP:mT l.prog w K mg base (fun z=>none):=gJ (Def.mk' X G IC ID IE IF (fun _ _ _ _ _ _ us hl=>qZ us hl fun _ _=>rfl)) fun F=>ET (cl:=fun z=>none) hbn F kL;have dB:kJ l.prog w K mg base (fun z=>none):=gJ (Def.mk' X G OO OP OQ OR (fun _ _ _ _ _ _ us hl=>D9 us hl fun _=>rfl)) fun F=>Lx (cl:=fun z=>none) hbn F;have fH:pF l.prog w K mg base (fun z=>none):=gJ (Def.mk' X G OS OT OU OV (fun _ _ _ _ _ _ us hl=>qZ us hl fun _ _=>rfl)) fun F=>Ly (cl:=fun z=>none) hbn F fP dB;have wI:A2 l.prog w K mg base (fun z=>none):=gJ (Def.mk' X G Mm Mn Mp Mq (fun _ _ _ _ _ _ us hl=>qZ us hl fun _ _=>rfl)) fun F=>Ia (cl:=fun z=>none) hbn F;have qV:wB l.prog w K mg base (fun z=>none):=gJ (Def.mk' X G IS IT IU IV (fun _ _ _ _ _ _ us hl=>qZ us hl fun _ _=>rfl)) fun F=>EU (cl:=fun z=>none) hbn F wI;have lK:wC l.prog w K mg base (fun z=>none):=gJ (Def.mk' X G OW OX OY OZ (fun _ _ _ _ _ _ us hl=>qZ us hl fun _ _=>rfl)) fun F=>LB (cl:=fun z=>none) hbn F fP qV;have EV:GF l.prog w K mg base (fun z=>none):=gJ (Def.mk' X G Rw Rx Ry Rz (fun _ _ _ _ _ _ us hl=>D9 us hl fun _=>rfl)) fun F=>Oo (cl:=fun z=>none) hbn F dB;have cI:gZ l.prog w K mg base (fun z=>none):=gJ (Def.mk' X G Fs Ft Fu Fv (fun _ _ _ _ _ _ us hl=>D9 us hl fun _=>rfl)) fun F=>D6 (cl:=fun z=>none) hbn F EV;have wJ:A3 l.prog w K mg base (fun z=>none):=gJ (Def.mk' X G MA MB MD ME (fun _ _ _ _ _ _ us hl=>qZ us hl fun _ _=>rfl)) fun F=>Ie (cl:=fun z=>none) hbn F;have F0:GG l.prog w K mg base (fun z=>none):=gJ (Def.mk' X G RA RB RC RD (fun _ _ _ _ _ _ us hl=>qZ us hl fun _ _=>rfl)) fun F=>Oq (cl:=fun z=>none) hbn F dB fH lK cI wJ;have qW:wD l.prog w K mg base (fun z=>none):=gJ (Def.mk' X G J5 J6 J7 J8 (fun _ _ _ _ _ _ us hl=>D9 us hl fun _=>rfl)) fun F=>EW (cl:=fun z=>none) hbn F;have mU:rZ l.prog w K mg base (fun z=>none):=gJ (Def.mk' X G FF FG FH FI (fun _ _ _ _ _ _ us hl=>qZ us hl fun _ _=>rfl)) fun F=>D7 (cl:=fun z=>none) hbn F;have wK:A4 l.prog w K mg base (fun z=>none):=gJ (Def.mk' X G MH MI MJ MK (fun _ _ _ _ _ _ us hl=>D9 us hl fun _=>rfl)) fun F=>Ig (cl:=fun z=>none) hbn F qW mU;have eT:kK l.prog w K mg base (fun z=>none):=gJ (Def.mk' X G FL FM FN FO (fun _ _ _ _ _ _ us hl=>D9 us hl fun _=>rfl)) fun F=>D8 (cl:=fun z=>none) hbn F cI wK;have qY:wF l.prog w K mg base (fun z=>none):=gJ (Def.mk' X G Je Jf Jg Jh (fun _ _ _ _ _ _ us hl=>qZ us hl fun _ _=>rfl)) fun F=>EZ (cl:=fun z=>none) hbn F dB fH eT;refine (Ri (cl:=fun z=>none) hbn (DY (st:=pD) U4 U5 U6) Bk jC qX Bl fH lK cI F0 eT qY).imp fun vs H Q E hh=>?_;obtain ⟨a,ns,rfl,hO,hS,hl,hq⟩:=hh;exact QI (C:=cC w K (fun z=>none)) hO hS (main ns hl) hq
theorem walk {l:PySem.W.OpenLaw} {q:Program} {loose:List Str} {XP:(Str->Option Value)->Heap->Prop} {YP:World->Heap->Prop} {d:DefRec} {K:Params->af} (hn:l.most=some 63) (hdf:d.params.defaults=[])
  (hY:∀ (w:World) (h:Heap),YP w h->(K w.params).In h)
  (F:∀ (w:World) (mg:Str->Option Value) (fa:Addr) (h:Heap),(K w.params).In h->h.Ns cf mg->mg d.name=some (.ref fa)->
   ∃ fd:c5,(∀ (s:Shared) (u:Value),BindsTo s fd ⟨[u],[]⟩ [("_law_script",u)])/\∀ base:Heap,(K w.params).In base->base.Ns cf mg->aY l.prog w (K w.params) mg base CX0 8 fa fd ["_law_script"] (spL (K w.params))):
  PySem.W.WalkO q loose XP YP l.row.toRowW d [] (fun f vs=>PySem.call f vs):=
 L2.walk_of (n:=63) (k:=8) (x:="_law_script") (CX:=fun _=>CX0) (sp:=fun w=>spL (K w.params)) hn (by decide) hdf ⟨rfl,by decide,by decide⟩ hY F (fun w H a ns hl hO hS=>⟨a,ns,rfl,hO,hS,hl,fun _=>rfl⟩) fun _ _ _ _ _ z=>z
end K80
open PySem PySem.W PyProof.Rows
set_option maxRecDepth 100000 in
set_option maxHeartbeats 0 in
theorem PySem.Challenge.cw_copymeet_k80_whole_two_rounds_holds : PySem.Challenge.rw_copymeet_k80_whole_two_rounds.Holds := by
 w_on; o_law; k_head; (case hw=>w_witness2)
 k_fill
 refine K80.walk (l:=PySem.Challenge.rw_copymeet_k80_whole_two_rounds) rfl rfl (fun w h Y=>PySem.W.kIn_of Y) ?F
 case F=>
  intro w mg fa h KX G hmg
  have hbn:∀ x∈K80.bsL,mg x=none:=fun x hx=>by
   rcases List.mem_cons.mp hx with rfl | hx
   ·exact PySem.W.mg_none_of KX G (by k_is)
   rcases List.mem_cons.mp hx with rfl | hx
   ·exact PySem.W.mg_none_of KX G (by k_is)
   rcases List.mem_cons.mp hx with rfl | hx
   ·exact PySem.W.mg_none_of KX G (by k_is)
   rcases List.mem_cons.mp hx with rfl | hx
   ·exact PySem.W.mg_none_of KX G (by k_is)
   rcases List.mem_cons.mp hx with rfl | hx
   ·exact PySem.W.mg_none_of KX G (by k_is)
   rcases List.mem_cons.mp hx with rfl | hx
   ·exact PySem.W.mg_none_of KX G (by k_is)
   rcases List.mem_cons.mp hx with rfl | hx
   ·exact PySem.W.mg_none_of KX G (by k_is)
   rcases List.mem_cons.mp hx with rfl | hx
   ·exact PySem.W.mg_none_of KX G (by k_is)
   rcases List.mem_cons.mp hx with rfl | hx
   ·exact PySem.W.mg_none_of KX G (by k_is)
   rcases List.mem_cons.mp hx with rfl | hx
   ·exact PySem.W.mg_none_of KX G (by k_is)
   cases hx
  refine' K80.all_mk KX G hmg hbn ?h0 ?h1 ?h2 ?h3 ?h4 ?h5 ?h6 ?h7 ?h8 ?h9 ?h10 ?h11 ?h12 ?h13 ?h14 ?h15 ?h16 ?h17 ?h18 ?h19 ?h20 ?h21 ?h22 ?h23 ?h24 ?h25 ?h26 ?h27 ?h28 ?h29 ?h30 ?h31 ?h32 ?h33 ?h34 ?h35 ?h36 ?h37 ?h38 ?h39 ?h40 ?h41 ?h42 ?h43 ?h44 ?h45 ?h46 ?h47 ?h48 ?h49 ?h50 ?h51 ?h52 ?h53 ?h54 ?h55 ?h56 ?h57 ?h58 ?h59 ?h60 ?h61 ?h62 ?h63 ?h64 ?h65 ?h66 ?h67 ?h68 ?h69 ?h70 ?h71 ?h72 ?h73 ?h74 ?h75 ?h76 ?h77 ?h78 ?h79 ?h80 ?h81 ?h82 ?h83 ?h84 ?h85 ?h86 ?h87 ?h88 ?h89 ?h90 ?h91
  (case h0=>k_is)
  (case h1=>k_is)
  (case h2=>k_is)
  (case h3=>k_is)
  (case h4=>k_is)
  (case h5=>k_is)
  (case h6=>k_is)
  (case h7=>k_is)
  (case h8=>k_is)
  (case h9=>k_is)
  (case h10=>k_is)
  (case h11=>k_is)
  (case h12=>k_is)
  (case h13=>k_is)
  (case h14=>k_is)
  (case h15=>k_is)
  (case h16=>k_is)
  (case h17=>k_is)
  (case h18=>k_is)
  (case h19=>k_is)
  (case h20=>k_is)
  (case h21=>k_is)
  (case h22=>k_is)
  (case h23=>k_is)
  (case h24=>k_is)
  (case h25=>k_is)
  (case h26=>k_is)
  (case h27=>k_is)
  (case h28=>k_is)
  (case h29=>k_is)
  (case h30=>k_is)
  (case h31=>k_is)
  (case h32=>k_is)
  (case h33=>k_is)
  (case h34=>k_is)
  (case h35=>k_is)
  (case h36=>k_is)
  (case h37=>k_is)
  (case h38=>k_is)
  (case h39=>k_is)
  (case h40=>k_is)
  (case h41=>k_is)
  (case h42=>k_is)
  (case h43=>k_is)
  (case h44=>k_is)
  (case h45=>k_is)
  (case h46=>k_is)
  (case h47=>k_is)
  (case h48=>k_is)
  (case h49=>k_is)
  (case h50=>k_is)
  (case h51=>k_is)
  (case h52=>k_is)
  (case h53=>k_is)
  (case h54=>k_is)
  (case h55=>k_is)
  (case h56=>k_is)
  (case h57=>k_is)
  (case h58=>k_is)
  (case h59=>k_is)
  (case h60=>k_is)
  (case h61=>k_is)
  (case h62=>k_is)
  (case h63=>k_is)
  (case h64=>k_is)
  (case h65=>k_is)
  (case h66=>k_is)
  (case h67=>k_is)
  (case h68=>k_is)
  (case h69=>k_is)
  (case h70=>k_is)
  (case h71=>k_is)
  (case h72=>k_is)
  (case h73=>k_is)
  (case h74=>k_is)
  (case h75=>k_is)
  (case h76=>k_is)
  (case h77=>k_is)
  (case h78=>k_is)
  (case h79=>k_is)
  (case h80=>k_is)
  (case h81=>k_is)
  (case h82=>k_is)
  (case h83=>k_is)
  (case h84=>k_is)
  (case h85=>k_is)
  (case h86=>k_is)
  (case h87=>k_is)
  (case h88=>k_is)
  (case h89=>k_is)
  (case h90=>k_is)
  (case h91=>k_is)
