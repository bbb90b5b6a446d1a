import PyProof.Rows.All
import Wide.All
import OpenK.AllK
import Wide.FinOn
import Lean
import PyProof.EqAt
import PyProof.EqKinds
import PyProof.TupleCall
import PyProof.NeKinds
import KE.KDictOf
import PyProof.AttrMissHeap
import PyProof.WalksMore
import PyProof.MeetsDict
import KE.KDictList
import KE.KRevIter
import PyProof.DictItemsLoops
import PyProof.DictWalks
import KE.KSortTup
import KE.KDictSum
import PyProof.SumAny
import PyProof.Conv_int_bool
import PyProof.Conv_int
import KE.KRevSl
import PyProof.MeetsStr
import PyProof.StrCalls3
import PyProof.Rows.TupDisplay
import PyProof.ZipIter
import PyProof.Draws
import PyProof.EnumMake
import PySem.Challenge.RW_copymeet_k73_outdone_by_who_had_seen
set_option compiler.extract_closed false
open PySem renaming wpAny_bind->Pi,wpAny_pure->Px,sizeLine->PP,starEach->P3,wpAny_newObj_type->Qm,compareOp->Qn,Spec->Qr,sizeLine_eq->Qt,wpAny_call_entry->Qy,sysModules->QG,wpAny_callSpecial?_slot->QH,cellsFrom->QJ,wpAny_dictEntries->QN,mainGlobals->QR,wpAny_Call_Name_kw->QT,binaryOp->QW,wpAny_holding->QZ,foldedSetIterable->Rb,FuncData->Rl,wpAny_dictEpoch->Rw,wpAny_typeNameOfWhole_itemiter->Ry,wpAny_mono->RB,wpAny_typeNameOfWhole_valiter->RC,wpAny_typeNameOfWhole_keyiter->RG,call_meetsIn->RM,assignEach->RS,bootBuiltins->RT,DictEntry->RU,tupleKind_room_in1->RW,wpAny_notOrdered_dict->RY,wpAny_typeNameOf_itemiter->R3,wpAny_specialOf->R6,wpAny_typeNameOf_valiter->R9,wpAny_typeNameOf_keyiter->Sb,attributeBase->Sh,mem_of_lookup->Si,wpAny_setField->Sn,NameKind->Sr,wpAny_attempt->SK,dictSetDefault->SU,wpAny_fieldsOf->SV,firstArgMember->SX,wpAny_isInstance->S0,wpAny_field->S5,wpAny_rule->S6,swapsWith->S8
open List renaming getElem?_eq_some_iff->Pv,length_map->PC,prefix_rfl->PF,size_toArray->PJ,mem_cons_of_mem->PK,mem_append_right->PM,mem_cons_self->PN,getElem?_map->PQ,map_cons->P0,mem_cons->P5,lookup_cons->P8,mem_map->Qc,mem_singleton->Qe,all_eq_true->Qf,range->Qi,mem_append->Ql,getElem?_eq_getElem->Qo,mem_of_getElem?->Qp,map_append->Qq,length_set->Qu,find?_cons->Qv,map_map->Qw,mem_append_left->Qx,prefix_append->QB,getElem?_append_left->QC,length_take->QK,nodup_append->QM,take_add_one->QP,getElem?_set_ne->QQ,length_append->QU,pairwise_cons->QV,length_cons->QY,getElem?_append_right->Q1,getElem?_set_self->Q3,drop_eq_getElem_cons->Q7,getElem?_cons_succ->Rh,getD_eq_getElem?_getD->Rm,ext_getElem?->Ro,map_congr_left->Rp,pairwise_map->Rq,append_nil->Ru,nodup_cons->Rv,getElem?_eq_none->Rz,take_append_drop->RA,take_length->RF,any_cons->RI,length_range->R8,toArray->Se,all_cons->Sj,replicate->Sm,mem_iff_getElem?->Sz,mem_of_mem_take->SQ,mem_iff_getElem->SR,filterMap_cons->S3,lookup->S4,length->Te
open PySem.W renaming Frag->Py,findIn->QE,kia_one->QI,emptyDict->Rc,fnOf->Rk,keepIn->Rr,mg_of->RJ,instObj->RN,plainGet->SY,codeIn->Tf,nsIn->Tg
open PySem.Str renaming ofString->Pz
open PySem.Heap renaming get?_push_of_some->PB,get?_push_size->PR,lt_size->PU,get?_update_self->QX,SameBut->Ra,get?_push_ne->R7,size_push->Sl,get?_update_other->So,size_update->SZ
open Nat renaming le_refl->PD,lt_of_lt_of_le->P6,ne_of_lt->P9,le_trans->Qb,zero_le->Qd,lt_irrefl->Q8,le_succ->Q9,lt_or_eq_of_le->Rj,le_of_lt->Rt,ne_of_gt->Sd,lt_or_ge->SF,not_lt_zero->Ta,min_eq_left->Tc
open Bool renaming false_ne_true->PY,and_eq_true->PZ,false_eq_true->Qh,eq_iff_iff->RR,beq_eq_decide_eq->SD,or_eq_true->SH
open Option.some renaming inj->P4
open PySem.Value renaming none->P7,ref->Qk,type->Td
open Option renaming map_eq_some_iff->Qa,isSome_map->R5,isSome_some->Ss,map_some->SJ
open PySem.Heap.SameBut renaming update->Qg
open PySem.Obj renaming mapSeq->Qj,mapFields->RK,data_mapFields->RZ,isFreed_of_fields->SC,data_mapDictKeys->SM
open PySem.Builtin.Dict_items renaming ownsTuple->Qs
open PySem.Paired renaming length->Qz
open PySem.NameKind renaming free->QA,cell->S9
open PyProof.Rows renaming slot_tuple_getitem->QD,callWith_type1->RP,listUpdate_at->RX,mirror_perm->Sy,get?_update_seq->SB
open PySem.F renaming slot_dict_get->QF,slot_dict_itemiterator_next->QL,slot_dict_valueiterator_next->Q2,entry_dict_get->Q4,slot_dict_keyiterator_next->Rf,plainAttrs_dict->RL,args_dict_get_2->Sk,slot_dict_setdefault->Su
open PySem.Builtin.Tuple renaming tupleHashOf->QO,tupleExact->R4,tupleItemsOf->SL
open Ne renaming symm->QS
open Array renaming getElem?_eq_none->Q5,getElem?_eq_getElem->Q6,getElem?_toList->R0,length_toList->Sg
open True renaming intro->Re
open Sum renaming inr->Rg
open Classical renaming propDecidable->Ri
open False renaming elim->Rn
open PySem.Builtin.Dict renaming showsAll->Rx
open PySem.Builtin.List renaming listExtendWith->RQ
open PySem.Builtin.Slice renaming slicePlaces->R1,sliceAdjust->SS
open Int renaming toNat_natCast->Sa
open List.Nodup renaming length_le_of_subset->Sf
open PySem.Calls renaming callWith_builtin->Sq
open PySem.Txt renaming slice->Sv
open PySem.Builtin.Str renaming strSliceIndices->Sw
open Array.Perm renaming refl->Sx
open List.Perm renaming eq_of_pairwise->S7
set_option Elab.async false
set_option linter.all false
set_option maxRecDepth 1000000
set_option maxHeartbeats 4000000
set_option bootstrap.genMatcherCode false
set_option hygiene false
noncomputable section
set_option genSizeOf false
local macro_rules|`(tactic|omega)=>`(tactic|lia)
local macro_rules|`(def $i:declId $s:optDeclSig $v:declVal)=>`(noncomputable def $i:declId $s:optDeclSig $v:declVal)
set_option tactic.hygienic false
namespace L2
open PySem PySem.Spec PyProof.Rows
abbrev Key:=Sum Int Str
def qV:Key->Value->Bool
 |.inl k,v=>Value.isInt k v
 |.inr x,v=>Value.isStrOf x v
def J2(w:World):Key->Int
 |.inl k=>hashInt k
 |.inr x=>hashStr w x
theorem aY:∀{k:Key}{v:Value},qV k v=true->(∃i t,k=Sum.inl i/\v=Value.int i t)\/(∃x t,k=Rg x/\v=Value.str x t)
 |.inl i,v,h=>by
  obtain⟨t,e⟩:=Value.isInt_shape (k:=i) (v:=v) h;exact .inl ⟨i,t,rfl,e⟩
 |.inr x,v,h=>by
  obtain⟨t,e⟩:=Value.isStrOf_shape (x:=x) (v:=v) h;exact .inr ⟨x,t,rfl,e⟩
theorem CA(i:Int)(t:Tok):qV (.inl i) (.int i t)=true:=by simp[qV,Value.isInt]
theorem CB(x:Str)(t:Tok):qV (.inr x) (.str x t)=true:=by simp[qV,Value.isStrOf]
theorem J3(a b:Int):decide ((Sum.inl a:Key)=Sum.inl b)=(a == b):=by
 by_cases e:a=b
 ·subst e;simp
 ·have h:¬ (Sum.inl a:Key)=Sum.inl b:=λq=>e (Sum.inl.inj q);rw[decide_eq_false h];exact(beq_eq_false_iff_ne.mpr e).symm
theorem J4(a b:Str):decide ((Rg a:Key)=Rg b)=decide (a=b):=by
 by_cases e:a=b
 ·subst e;simp
 ·have h:¬ (Rg a:Key)=Rg b:=λq=>e (Sum.inr.inj q);rw[decide_eq_false h,decide_eq_false e]
theorem J5(a:Int)(b:Str):decide ((Sum.inl a:Key)=Rg b)=false:=decide_eq_false (λq=>nomatch q)
theorem J6(a:Str)(b:Int):decide ((Rg a:Key)=Sum.inl b)=false:=decide_eq_false (λq=>nomatch q)
def aQ(prog:Program)(w:World):PySem.KeyKind prog w Key where
 is:=qV
 hash:=J2 w
 inj:=λv a b ha hb=>by
  rcases aY ha with⟨i,t,rfl,rfl⟩|⟨x,t,rfl,rfl⟩
  ·rcases aY hb with⟨j,u,rfl,e⟩|⟨y,u,rfl,e⟩
   ·injection e with e1 _;rw[e1]
   ·exact nomatch e
  ·rcases aY hb with⟨j,u,rfl,e⟩|⟨y,u,rfl,e⟩
   ·exact nomatch e
   ·injection e with e1 _;rw[e1]
 byValue:=λk v h=>by
  rcases aY h with⟨i,t,rfl,rfl⟩|⟨x,t,rfl,rfl⟩ <;> rfl
 pyHash:=λhv h=>by
  rcases aY hv with⟨i,t,rfl,rfl⟩|⟨x,t,rfl,rfl⟩
  ·exact wpAny_pyHash_int h
  ·exact wpAny_pyHash_str h
 eqBool:=λhu hv h=>by
  rcases aY hu with⟨i,t,rfl,rfl⟩|⟨x,t,rfl,rfl⟩
  ·rcases aY hv with⟨j,u,rfl,rfl⟩|⟨y,u,rfl,rfl⟩
   ·rw[J3]at h;exact wpAny_eqBool_int h
   ·rw[J5]at h;exact SeqAt.EqAt.int_str i t y u _ _ _ _ h
  ·rcases aY hv with⟨j,u,rfl,rfl⟩|⟨y,u,rfl,rfl⟩
   ·rw[J6]at h;exact SeqAt.EqAt.str_int x t j u _ _ _ _ h
   ·rw[J4]at h;exact wpAny_eqBool_str h
 «strs»:=λk x t v h=>by
  rcases aY h with⟨i,u,rfl,e⟩|⟨y,u,rfl,e⟩
  ·exact nomatch e
  ·injection e with e1 _;subst e1;cases v <;> rfl
theorem zV(prog:Program)(w:World)(i:Int)(t:Tok):(aQ prog w).is (.inl i) (.int i t)=true:=CA i t
theorem qW(prog:Program)(w:World)(x:Str)(t:Tok):(aQ prog w).is (.inr x) (.str x t)=true:=CB x t
inductive V where
 |non|bl (b:Bool)|int (i:Int)|str (x:Str)|byt (b:Array UInt8)|flt (b:UInt64)|ref (a:Addr)|ty (n:String)
 deriving DecidableEq
def RelV:V->Value->Prop
 |.non,u=>u=P7
 |.bl b,u=>u=Value.bool b
 |.int i,u=>∃t,u=Value.int i t
 |.str x,u=>∃t,u=Value.str x t
 |.byt b,u=>∃t,u=Value.bytes b t
 |.flt b,u=>∃t,u=Value.float b t
 |.ref a,u=>u=Qk a
 |.ty n,u=>u=Td n
abbrev aI:List V->List Value->Prop:=Paired RelV
variable{us:List Value}
theorem aI.length{xs:List V}(r:aI xs us):xs.length=us.length:=Qz r
theorem aI.get:∀{xs:List V}{us:List Value}{i:Nat}{x:V},aI xs us->xs[i]?=some x->∃u,us[i]?=some u/\RelV x u
 |_,_,_,_,.nil,e=>by simp at e
 |_,_,0,_,.cons r _,e=>by simp at e;subst e;exact⟨_,rfl,r⟩
 |_,_,i+1,x,.cons _ t,e=>by
  obtain⟨u,h1,h2⟩:=aI.get (i:=i) (x:=x) t (by simpa using e)
  exact⟨u,by simpa using h1,h2⟩
variable{u:Value}
theorem aI.set{x:V}(r:RelV x u):∀{xs:List V}{us:List Value}(i:Nat),aI xs us->aI (xs.set i x) (us.set i u)
 |_,_,_,.nil=>.nil
 |_,_,0,.cons _ t=>.cons r t
 |_,_,i+1,.cons q t=>.cons q (aI.set r i t)
theorem aI.append:∀{xs ys:List V}{us ws:List Value},aI xs us->aI ys ws->aI (xs++ys) (us++ws)
 |_,_,_,_,.nil,s=>s
 |_,_,_,_,.cons r t,s=>.cons r (aI.append t s)
theorem aI.take:∀{xs:List V}{us:List Value}(n:Nat),aI xs us->aI (xs.take n) (us.take n)
 |_,_,0,_=>.nil
 |_,_,_+1,.nil=>.nil
 |_,_,n+1,.cons r t=>.cons r (aI.take n t)
theorem aI.drop:∀{xs:List V}{us:List Value}(n:Nat),aI xs us->aI (xs.drop n) (us.drop n)
 |_,_,0,r=>r
 |_,_,_+1,.nil=>.nil
 |_,_,n+1,.cons _ t=>aI.drop n t
def jT:Option V->Option Value->Prop
 |some v,some u=>RelV v u
 |none,none=>True
 |_,_=>False
def KV{κ:Type}:List (κ×V)->List (κ×Value)->Prop:=Paired λ(p:κ×V)(q:κ×Value)=>p.1=q.1/\RelV p.2 q.2
def kV:Key->V
 |.inl i=>.int i
 |.inr x=>.str x
inductive HO where
 /-- a list -/
 |lst (xs:List V)
 /-- a tuple (never changes) -/
 |tup (xs:List V)
 /-- a dict whose keys are ints and texts;one whose keys are tuples of ints and texts (the empty one is both) -/
 |dK (kvs:List (Key×V))|dT (kvs:List (List Key×V))
 /-- a set of ints: its members,its size -/
 |set (S:Int->Bool) (n:Nat)
 /-- an instance of the class at C,its dict at dx,its attributes -/
 |ins (C dx:Addr) (fs:List (Str×V))
 /-- the dict of the instance at x -/
 |own (x:Addr)
 /-- the dict of an exception -/
 |xd (fs:List (Str×V))
 /-- a bound method,f of x -/
 |met (f x:Addr)
 /-- a range object lo,lo+1,.. below hi -/
 |rng (lo hi:Int)
 /-- a thing that is known to the object (the script;a dict while a loop walks it): read,never written while it is so -/
 |frz (o:Obj) (u:HO)
 /-- a code object's table -/
 |tbl (ps:Array Value)
 /-- any other thing,by what is true of its one object (a def of one's own: SetO a S n:=HO.ext λh=>..) -/
 |ext (φ:Heap->Prop)
abbrev Hp:=Addr->Option HO
def upd(H:Hp)(a:Addr)(o:HO):Hp:=λb=>if b=a then some o else H b
variable{H:Hp}{a:Addr}{o:HO}
theorem aJ:upd H a o a=some o:=by unfold upd;rw[if_pos rfl]
theorem aH{b:Addr}(h:b≠a):upd H a o b=H b:=by unfold upd;rw[if_neg h]
theorem L9{b:Addr}{u:HO}(h:H a=some o)(h':H b=some u)(d:o≠u):a≠b:=by
 intro e;subst e;rw[h]at h';exact d (P4 h')
theorem cI{b:Addr}(h:H a=some o)(h':H b=none):a≠b:=by
 intro e;subst e;rw[h]at h';cases h'
def pL(h:Heap)(a:Addr)(items:Array Value):Prop:=∃o,h.get? a=some o/\o.cls=.type "tuple" /\ (∃n,o.data=.seq items n)/\o.dict=none
variable{items:Array Value}
theorem pL.is{h:Heap}(x:pL h a items):PyProof.Rows.IsTup h a items:=let ⟨o,h1,h2,h3,_⟩:=x;⟨o,h1,h2,h3⟩
theorem pL.lt{h:Heap}(x:pL h a items):a<h.objs.size:=let ⟨_,h1,_⟩:=x;PU h1
theorem pL.new(h:Heap)(items:Array Value):pL (h.push { cls:=.type "tuple",data:=.seq items 0 }) h.objs.size items:=⟨_,PR _ rfl,rfl,⟨_,rfl⟩,rfl⟩
section
variable(P:Program)(w:World)
def bC(H:Hp)(h:Heap)(a:Addr):HO->Prop
 |.lst xs=>xs.length<=PP/\∃(its:List Value)(n:Nat),aI xs its/\h.get? a=some { cls:=.type "list",data:=.seq its.toArray n }
 |.tup xs=>xs.length<=PP/\∃its:List Value,aI xs its/\pL h a its.toArray
 |.dK kvs=>kvs.length<=PP/\(a == QG)=false/\∃vs,KV kvs vs/\h.DictOf (aQ P w) a vs
 | .dT kvs=>kvs.length<=PP/\(a == QG)=false/\∃ xs:List (List Key×Addr×Value),
   Paired (λ(p:List Key×V)(q:List Key×Addr×Value)=>p.1=q.1/\H q.2.1=some (.tup (p.1.map kV))/\RelV p.2 q.2.2) kvs xs/\
   ∃o es ep,h.get? a=some o/\o.ExactDict/\o.data=.dict es ep/\es.toList=xs.map (entryOfKey (tupleKind (aQ P w)))/\(xs.map (·.1)).Nodup
 |.set S n=>h.SetOf (intKind P w) a S n
 | .ins C dx fs=>H dx=some (.own a)/\fs.length<=1000/\dx≠a/\h.get? a=some (RN C dx)/\
   ∃mA,h.Ns1 dx mA/\(∀f,jT (fs.lookup f) (mA f))/\PySem.Within mA (fs.map (·.1))
 |.own _=>∃o,h.get? a=some o
 |.xd fs=>∃mA,h.Ns1 a mA/\∀f,jT (fs.lookup f) (mA f)
 |.rng lo hi=>∃t u v,h.get? a=some { cls:=.type "range",data:=.fields #[.int lo t,.int hi u,.int 1 v] }
 |.frz o u=>h.get? a=some o/\bC H h a u
 |.tbl ps=>h.get? a=some { cls:=.none,data:=.fields ps }
 |.met f x=>h.get? a=some (PySem.W.methodObj (.ref f) (.ref x))
 |.ext φ=>φ h/\(∃o,h.get? a=some o)/\∀h1 h2:Heap,φ h1->(∀o,h1.get? a=some o->h2.get? a=some o)->φ h2
def HOk(H:Hp)(h:Heap):Prop:=∀a o,H a=some o->bC P w H h a o
end
variable{P:Program}{w:World}
theorem bC.lt{h:Heap}(x:bC P w H h a o):a<h.objs.size:=by
 cases o with
 |lst xs=>obtain⟨_,_,_,_,e⟩:=x;exact PU e
 |tup xs=>obtain⟨_,_,_,p⟩:=x;exact pL.lt p
 |dK kvs=>obtain⟨_,_,_,_,o,_,_,e,_⟩:=x;exact PU e
 |dT kvs=>obtain⟨_,_,_,_,o,_,_,e,_⟩:=x;exact PU e
 |set S n=>obtain⟨o,_,_,_,e,_⟩:=x;exact PU e
 |ins C dx fs=>obtain⟨_,_,_,e,_⟩:=x;exact PU e
 |own y=>obtain⟨_,e⟩:=x;exact PU e
 |xd fs=>obtain⟨_,⟨_,_,_,e,_⟩,_⟩:=x;exact PU e
 |rng lo hi=>obtain⟨_,_,_,e⟩:=x;exact PU e
 |frz ob u=>obtain⟨e,_⟩:=x;exact PU e
 |tbl ps=>exact PU (show h.get? a=some _ from x)
 |met f y=>exact PU (show h.get? a=some _ from x)
 |ext φ=>obtain⟨_,⟨_,e⟩,_⟩:=x;exact PU e
theorem Paired.mapP{α β:Type}{F G:α->β->Prop}:∀{l₁:List α}{l₂:List β},Paired F l₁ l₂->(∀a b,F a b->G a b)->Paired G l₁ l₂
 |_,_,.nil,_=>.nil
 |_,_,.cons r t,f=>.cons (f _ _ r) (Paired.mapP t f)
variable{H':Hp}{h':Heap}
theorem bC.stay{h:Heap}(x:bC P w H h a o)(k:∀b u,(b=a\/H b=some (.own a))->h.get? b=some u->h'.get? b=some u)(ho:∀b,H b=some (.own a)->H' b=some (.own a))(ht:∀b xs,H b=some (.tup xs)->H' b=some (.tup xs)):bC P w H' h' a o:=by
 induction o with
 |lst xs=>obtain⟨z,its,n,r,e⟩:=x;exact⟨z,its,n,r,k _ _ (.inl rfl) e⟩
 |tup xs=>obtain⟨z,its,r,ob,e,c⟩:=x;exact⟨z,its,r,ob,k _ _ (.inl rfl) e,c⟩
 |dK kvs=>obtain⟨z,y,vs,r,ob,es,ep,e,c⟩:=x;exact⟨z,y,vs,r,ob,es,ep,k _ _ (.inl rfl) e,c⟩
 |dT kvs=>
  obtain⟨z,y,xs,r,ob,es,ep,e,c⟩:=x;exact⟨z,y,xs,Paired.mapP r λp q z=>⟨z.1,ht _ _ z.2.1,z.2.2⟩,ob,es,ep,k _ _ (.inl rfl) e,c⟩
 |set S n=>obtain⟨ob,es,ep,t,e,c⟩:=x;exact⟨ob,es,ep,t,k _ _ (.inl rfl) e,c⟩
 |ins C dx fs=>
  obtain⟨d,z,ne,e,mA,⟨od,es,ep,e2,c⟩,r⟩:=x;exact⟨ho _ d,z,ne,k _ _ (.inl rfl) e,mA,⟨od,es,ep,k _ _ (.inr d) e2,c⟩,r⟩
 |own y=>obtain⟨ob,e⟩:=x;exact⟨ob,k _ _ (.inl rfl) e⟩
 |xd fs=>obtain⟨mA,⟨od,es,ep,e,c⟩,r⟩:=x;exact⟨mA,⟨od,es,ep,k _ _ (.inl rfl) e,c⟩,r⟩
 |rng lo hi=>obtain⟨t,u,v,e⟩:=x;exact⟨t,u,v,k _ _ (.inl rfl) e⟩
 |frz ob u ih=>obtain⟨e,q⟩:=x;exact⟨k _ _ (.inl rfl) e,ih q⟩
 |tbl ps=>
  have e:h.get? a=some { cls:=.none,data:=.fields ps }:=x
  show h'.get? a=some { cls:=.none,data:=.fields ps }
  exact k a _ (.inl rfl) e
 |met f y=>
  have e:h.get? a=some (PySem.W.methodObj (.ref f) (.ref y)):=x
  show h'.get? a=some (PySem.W.methodObj (.ref f) (.ref y))
  exact k a _ (.inl rfl) e
 |ext φ=>obtain⟨p,⟨o,e⟩,st⟩:=x;exact⟨st _ _ p λo q=>k _ _ (.inl rfl) q,⟨o,k _ _ (.inl rfl) e⟩,st⟩
theorem HOk.lt{h:Heap}(x:HOk P w H h)(e:H a=some o):a<h.objs.size:=(x a o e).lt
theorem HOk.fresh{h:Heap}(x:HOk P w H h)(e:h.objs.size<=a):H a=none:=by
 cases q:H a with
 |none=>rfl
 |some u=>exact absurd (P6 (x.lt q) e) (Q8 _)
theorem HOk.kept{h:Heap}(x:HOk P w H h)(k:∀b u,h.get? b=some u->h'.get? b=some u):HOk P w H h':=λa o e=>
 (x a o e).stay (λb u _ q=>k b u q) (λ_ q=>q) λ_ _ q=>q
theorem HOk.laid{h:Heap}(x:HOk P w H h)(k:∀b u,h.get? b=some u->h'.get? b=some u)(hp:h.objs.size<=a)(new:bC P w (upd H a o) h' a o):HOk P w (upd H a o) h':=λb u e=>by
 have hn:=x.fresh hp
 by_cases hb:b=a
 ·subst hb;rw[aJ]at e;cases e;exact new
 ·rw[aH hb]at e;exact(x b u e).stay (λc v _ q=>k c v q) (λc q=>by rw[aH (cI q hn)];exact q) λc xs q=>by rw[aH (cI q hn)];exact q
def Rd(H:Hp)(a:Addr)(u:HO):Prop:=H a=some u\/∃o,H a=some (.frz o u)
theorem Rd.ok{h:Heap}{u:HO}(r:Rd H a u)(x:HOk P w H h):bC P w H h a u:=by
 rcases r with r|⟨o,r⟩
 ·exact x a u r
 ·obtain⟨_,q⟩:=x a _ r;exact q
def Mut:Option HO->Prop
 |some (.lst _)=>True
 |some (.dK _)=>True
 |some (.dT _)=>True
 |some (.set _ _)=>True
 |some (.ins _ _ _)=>True
 |some (.ext _)=>True
 |_=>False
section
variable{h:Heap}{x e:Addr}{o':HO}
theorem HOk.write(ok:HOk P w H h)(mu:Mut (H x))(he:e=x\/H e=some (.own x))(k:∀b u,b≠e->h.get? b=some u->h'.get? b=some u)(ie:∃u,h'.get? e=some u)
  (new:bC P w (upd H x o') h' x o'):HOk P w (upd H x o') h':=λb u q=>by
 have oz:∀c y,H c=some (.own y)->c≠x:=λc y r z=>by subst z;rw[r]at mu;exact mu
 have rn:∀c xs,H c=some (.tup xs)->c≠x:=λc xs r z=>by subst z;rw[r]at mu;exact mu
 by_cases hb:b=x
 ·subst hb;rw[aJ]at q;cases q;exact new
 ·rw[aH hb]at q
  by_cases hbe:b=e
  ·have q':H b=some (.own x):=by
    rcases he with z|z
    ·exact absurd (hbe.trans z) hb
    ·rw[hbe];exact z
   rw[q]at q';cases q';obtain⟨v,hv⟩:=ie;exact⟨v,by rw[hbe];exact hv⟩
  ·refine(ok b u q).stay (λc v hc r=>k c v ?_ r) (λc r=>by rw[aH (oz c b r)];exact r) λc xs r=>by rw[aH (rn c xs r)];exact r
   rcases hc with rfl|hc
   ·exact hbe
   ·rintro rfl;rcases he with z|z
    ·exact oz c b hc z
    ·rw[hc]at z;cases z;exact hb rfl
end
structure Un(fs ex:List Addr)(H H':Hp)(h h':Heap):Prop where
 keep:∀b o,h.get? b=some o->H b=none->b∉fs->b∉ex->h'.get? b=some o
 slot:∀b o,h.get? b=some o->H b=none->b∈fs->b∉ex->∃sl,h'.get? b=some { o with slots:=sl }
 free:∀b o,h.get? b=some o->H b=none->b∉ex->H' b=none
 there:∀b o,h.get? b=some o->b∉ex->∃o',h'.get? b=some o'
 tups:∀b xs,H b=some (.tup xs)->H' b=some (.tup xs)
 frzs:∀b o u,H b=some (.frz o u)->H' b=some (.frz o u)
 tbls:∀b ps,H b=some (.tbl ps)->∃more,H' b=some (.tbl (ps++more))
variable{H1:Hp}{ex:List Addr}{ob:Obj}
section
variable{fs ku ex':List Addr}{h h1 h2:Heap}{x e:Addr}
theorem Un.any(u:Un fs ex H H1 h h1){b:Addr}(q:h.get? b=some ob)(n:H b=none)(hx:b∉ex):∃sl,h1.get? b=some { ob with slots:=sl }:=by
 by_cases hb:b∈fs
 ·exact u.slot b ob q n hb hx
 ·exact⟨ob.slots,u.keep b ob q n hb hx⟩
theorem Un.kept(k:∀b u,h.get? b=some u->h'.get? b=some u):Un fs ex H H h h':=
 ⟨λb ob q _ _ _=>k b ob q,λb ob q _ _ _=>⟨ob.slots,k b ob q⟩,λ_ _ _ n _=>n,λb ob q _=>⟨ob,k b ob q⟩,λ_ _ q=>q,λ_ _ _ q=>q,λ_ ps q=>⟨#[],by rw[q];simp⟩⟩
theorem Un.refl:Un fs ex H H h h:=Un.kept λ_ _ q=>q
theorem Un.laid(k:∀b u,h.get? b=some u->h'.get? b=some u)(hp:h.objs.size<=a)(hn:H a=none):Un fs ex H (upd H a o) h h' where
 keep:=λb u q _ _ _=>k b u q
 slot:=λb u q _ _ _=>⟨u.slots,k b u q⟩
 free:=λb u q n _=>by rw[aH (P9 (P6 (PU q) hp))];exact n
 there:=λb u q _=>⟨u,k b u q⟩
 tups:=λb xs q=>by rw[aH (cI q hn)];exact q
 frzs:=λb u xs q=>by rw[aH (cI q hn)];exact q
 tbls:=λb ps q=>⟨#[],by rw[aH (cI q hn),q];simp⟩
theorem Un.write(mu:Mut (H x))(he:e=x\/H e=some (.own x))(k:∀b u,b≠e->h.get? b=some u->h'.get? b=some u)(ie:∃u,h'.get? e=some u):Un fs ex H (upd H x o) h h':=by
 have hx:∀b,H b=none->b≠x:=λb n z=>by subst z;rw[n]at mu;exact mu
 have hb:∀b,H b=none->b≠e:=λb n z=>by
  subst z;rcases he with r|r
  ·exact hx b n r
  ·rw[n]at r;cases r
 have hm:∀b u,H b=some u->¬ Mut (some u)->b≠x:=λb u q nm z=>by subst z;rw[q]at mu;exact nm mu
 refine⟨λb u q n _ _=>k b u (hb b n) q,λb u q n _ _=>⟨u.slots,k b u (hb b n) q⟩,λb u q n _=>by rw[aH (hx b n)];exact n,λb u q _=>?_,
  λb xs q=>by rw[aH (hm b _ q λz=>z)];exact q,λb u xs q=>by rw[aH (hm b _ q λz=>z)];exact q,λb ps q=>⟨#[],by rw[aH (hm b _ q λz=>z),q];simp⟩⟩
 by_cases hbe:b=e
 ·subst hbe;exact ie
 ·exact⟨u,k b u hbe q⟩
end
def trk(h:Heap)(H:Hp):List Addr:=(Qi h.objs.size).filter λa=>(H a).isSome
def xQ(h:Heap)(H:Hp):Heap:=PySem.W.hideAll h (trk h H)
theorem CC(h:Heap)(H:Hp):(xQ h H).objs.size=h.objs.size:=PySem.W.hideAll_size _ _
theorem DW{h:Heap}{b:Addr}{o:Obj}(e:h.get? b=some o)(n:H b=none):(xQ h H).get? b=some o:=
 PySem.W.hideAll_get _ e λhm=>by
  have q:(H b).isSome=true:=(List.mem_filter.mp hm).2;rw[n]at q;simp at q
theorem Gu{h:Heap}{b:Addr}{o:Obj}(e:(xQ h H).get? b=some o):h.get? b=some o/\H b=none:=by
 have e':h.get? b=some o:=PySem.W.of_hideAll (trk h H) e;refine⟨e',?_⟩;cases q:H b with
 |none=>rfl
 |some x=>
  have hm:b∈trk h H:=List.mem_filter.mpr ⟨List.mem_range.mpr (PU e'),by simp[q]⟩;have z:(xQ h H).get? b=none:=PySem.W.hideAll_none (trk h H) hm;rw[z]at e;cases e
def Gv(g h:Heap)(L:Addr):List (Addr×Obj):=(Qi h.objs.size).filterMap λa=>if a=L\/(g.get? a).isSome=true then none else(h.get? a).map λo=>(a,o)
def rest(g h:Heap)(L d:Addr):List (Addr×Obj):=(Gv g h L).filter λp=>decide (p.1≠d)
structure Mod(K:Py)(mg:Str->Option Value)(base:Heap):Prop where
 kin:K.In base
 glob:base.Ns QR mg
 blt:∃mb,base.Ns builtinsNs mb/\∀x:Str,x≠"__name__" -> mb x=RT x
 nolimit:base.NoLimit
structure Cx where
 prog:Program
 w:World
 K:Py
 mg:Str->Option Value
 base:Heap
 A:Around
 N:List Str
 s₀:Shared
 H₀:Hp
 env:Env
 outer:List Env
 stack:List Env
 ex:List Addr
 fn:Str->Bool
 calm:Bool
 pn:List (Addr×Obj)
 xe:Value->Shared->Prop
def frs(l:List Env):List Addr:=l.filterMap (·.frame)
abbrev Cx.fs(X:Cx):List Addr:=frs X.outer
def Vis(sc:Scope)(x:Str):Prop:=sc.names.lookup x=some .local\/sc.names.lookup x=some .cell\/sc.names.lookup x=some .free
def Loc(sc:Scope)(x:Str):Prop:=sc.names.lookup x=some .local\/sc.names.lookup x=some .cell
def Look(env:Env)(h:Heap)(m:Str->Option Value)(x:Str)(u:Value):Prop:=
 (env.kindOf x=some .local/\m x=some u)\/((env.kindOf x=some .cell\/env.kindOf x=some .free)/\∃c,env.cells.lookup x=some c/\h.IsCell c (some u))
structure Cx.Ok(X:Cx):Prop where
 mod:Mod X.K X.mg X.base
 kind:X.env.scope.kind=.function
 glob:X.env.globals=QR
 blt:X.env.builtins=builtinsNs
 above:X.s₀.heap.objs.size<=X.env.locals
 inj:∀x y c,X.env.cells.lookup x=some c->X.env.cells.lookup y=some c->x=y
 has:∀x,(X.env.kindOf x=some .cell\/X.env.kindOf x=some .free)->∃c,X.env.cells.lookup x=some c
 cab:∀x c,X.fn x=true->X.env.cells.lookup x=some c->X.s₀.heap.objs.size<=c
 hd:X.calm=true->X.A.handled=none
 frames:X.A.frames=some X.stack
 stk:X.stack=X.outer\/(X.stack=X.env::X.outer/\X.env.frame=some X.env.locals)
 exf:∀b∈X.ex,b≠X.env.locals/\∀x c,X.env.cells.lookup x=some c->c≠b
 bs:∀b o,X.base.get? b=some o->X.s₀.heap.get? b=some o/\X.H₀ b=none
 bsz:X.base.objs.size<=X.s₀.heap.objs.size
 noex:∀b o,X.base.get? b=some o->b∉X.ex
 exfs:∀b∈X.ex,b∉X.fs
 funs:X.s₀.heap.FunFrames X.base X.outer
 frf:∀b∈X.fs,X.H₀ b=none
structure Inv(X:Cx)(pins:List (Addr×Obj))(σ:List (Option V))(H:Hp)(s:Shared):Prop where
 ok:X.Ok
 os:s.os=X.s₀.os
 bare:AllBare s.gens
 base:Un X.fs X.ex X.H₀ H X.s₀.heap s.heap
 loc:∃m,s.heap.Ns X.env.locals m/\∀(i:Nat)(x:Str)(v:V),X.N[i]?=some x->σ[i]?=some (some v)->Vis X.env.scope x->∃u,RelV v u/\Look X.env s.heap m x u
 cell:∀x c,X.env.cells.lookup x=some c->∃v,s.heap.IsCell c v
 free:H X.env.locals=none
 freeC:∀x c,X.env.cells.lookup x=some c->H c=none
 pin:∀p∈X.pn++pins,s.heap.get? p.1=some p.2/\H p.1=none/\p.1≠X.env.locals/\p.1∉X.fs/\∀v,p.2.data≠.cell v
 hok:HOk X.prog X.w H s.heap
 len:σ.length=X.N.length
variable{X:Cx}
theorem Cx.Ok.nofr(ok:X.Ok){b:Addr}{o:Obj}(e:X.base.get? b=some o):b∉X.fs:=λhb=>by
 have:=(ok.funs.mem hb).1;rw[e]at this;cases this
variable{pins:List (Addr×Obj)}{s:Shared}
theorem Inv.bs{σ:List (Option V)}(I:Inv X pins σ H s):∀b o,X.base.get? b=some o->s.heap.get? b=some o/\H b=none:=λb o e=>
 ⟨I.base.keep b o (I.ok.bs b o e).1 (I.ok.bs b o e).2 (I.ok.nofr e) (I.ok.noex b o e),I.base.free b o (I.ok.bs b o e).1 (I.ok.bs b o e).2 (I.ok.noex b o e)⟩
theorem Inv.bk{σ:List (Option V)}(I:Inv X pins σ H s):∀b o,X.base.get? b=some o->s.heap.get? b=some o:=λb o e=>(I.bs b o e).1
theorem Inv.mod{σ:List (Option V)}(I:Inv X pins σ H s):Mod X.K X.mg X.base:=I.ok.mod
theorem Inv.kIn{σ:List (Option V)}(I:Inv X pins σ H s):X.K.In s.heap:=I.ok.mod.kin.keeps I.bk
theorem Inv.lt{σ:List (Option V)}(I:Inv X pins σ H s):X.env.locals<s.heap.objs.size:=let ⟨_,hn,_⟩:=I.loc;hn.lt
theorem Inv.sz{σ:List (Option V)}(I:Inv X pins σ H s):X.s₀.heap.objs.size<=s.heap.objs.size:=Qb I.ok.above (Rt I.lt)
theorem Inv.nofs{σ:List (Option V)}(I:Inv X pins σ H s)(h:s.heap.objs.size<=a):a∉X.fs:=λhb=>by
 obtain⟨_,o,ho,_⟩:=I.ok.funs.mem hb;exact absurd (P6 (PU ho) (Qb I.sz h)) (Q8 _)
theorem Inv.cne{σ:List (Option V)}(I:Inv X pins σ H s):∀x c,X.env.cells.lookup x=some c->c≠X.env.locals:=λx c e z=>by
 obtain⟨v,o,ho,hd⟩:=I.cell x c e;obtain⟨m,⟨o',es,ep,dr,cg,_⟩,_⟩:=I.loc;rw[z,dr]at ho;cases ho;rw[cg]at hd;cases hd
theorem Inv.funs{σ:List (Option V)}(I:Inv X pins σ H s):s.heap.FunFrames X.base X.outer:=by
 have all:∀(l:List Env),(∀b∈frs l,b∈X.fs)->X.s₀.heap.FunFrames X.base l->s.heap.FunFrames X.base l:=by
  intro l
  induction l with
  |nil=>intro _ _;trivial
  |cons env r ih=>
   intro hs hl;obtain⟨hk,⟨L,o,hf,hn,ho,hd⟩,hr⟩:=hl;have hL:L∈X.fs:=hs L (by unfold frs;rw[S3,hf];exact PN);obtain⟨sl,e⟩:=I.base.slot L o ho (I.ok.frf L hL) hL λz=>I.ok.exfs L z hL;exact⟨hk,⟨L,_,hf,hn,e,hd⟩,ih (λb hb=>hs b (by unfold frs;rw[S3,hf];exact PK _ hb)) hr⟩
 exact all X.outer (λ_ hb=>hb) I.ok.funs
theorem Inv.stack{σ:List (Option V)}(I:Inv X pins σ H s):s.heap.FunFrames X.base X.stack:=by
 rcases I.ok.stk with e|⟨e,hf⟩
 ·rw[e];exact I.funs
 ·rw[e];obtain⟨m,hn,_⟩:=I.loc;refine .cons (by rw[I.ok.kind];decide) hf hn ?_ I.funs;exact Heap.get?_none_of_le (Qb I.ok.bsz I.ok.above)
theorem Inv.stkSub{σ:List (Option V)}(I:Inv X pins σ H s):∀b∈frs X.stack,b∈X.env.locals::X.fs:=λb hb=>by
 rcases I.ok.stk with e|⟨e,hf⟩
 ·rw[e]at hb;exact PK _ hb
 ·rw[e]at hb;unfold frs at hb;rw[S3,hf]at hb;exact hb
theorem Inv.stkFree{σ:List (Option V)}(I:Inv X pins σ H s):∀b∈frs X.stack,H b=none:=λb hb=>by
 rcases P5.mp (I.stkSub b hb) with e|hb
 ·rw[e];exact I.free
 ·obtain⟨_,o,ho,_⟩:=I.ok.funs.mem hb;exact I.base.free b o ho (I.ok.frf b hb) λz=>I.ok.exfs b z hb
variable{ch:List Addr}{d':Drawn}{g':Array GenState}{t':Nat}
theorem Inv.step{σ:List (Option V)}(I:Inv X pins σ H s)(il:∀b∈ch,(b∈X.ex\/X.s₀.heap.objs.size<=b)/\b≠X.env.locals/\(∀x c,X.env.cells.lookup x=some c->c≠b)/\∀p∈X.pn++pins,p.1≠b)(keep:∀b o,b≠X.env.locals->b∉X.fs->b∉ch->s.heap.get? b=some o->H b=none->h'.get? b=some o)(slot:∀b o,b≠X.env.locals->b∈X.fs->b∉ch->s.heap.get? b=some o->H b=none->∃sl,h'.get? b=some { o with slots:=sl })(free:∀b o,b∉ch->s.heap.get? b=some o->H b=none->H' b=none)(there:∀b o,b∉ch->s.heap.get? b=some o->∃o',h'.get? b=some o')(tups:∀b xs,H b=some (.tup xs)->H' b=some (.tup xs))(frzs:∀b o u,H b=some (.frz o u)->H' b=some (.frz o u))(tbls:∀b ps,H b=some (.tbl ps)->∃more,H' b=some (.tbl (ps++more)))(ns:∀m,s.heap.Ns X.env.locals m->h'.Ns X.env.locals m)(hok:HOk X.prog X.w H' h')(hg:AllBare g'):
  Inv X pins σ H' { s with heap:=h',gens:=g',drawn:=d',toks:=t' }:=by
 have vz:∀b o,X.s₀.heap.get? b=some o->b≠X.env.locals:=λb o e=>P9 (P6 (PU e) I.ok.above);have qa:∀b o,X.s₀.heap.get? b=some o->b∉X.ex->b∉ch:=λb o e hx hb=>by
  rcases(il b hb).1 with z|z
  ·exact hx z
  ·exact absurd (P6 (PU e) z) (Q8 _)
 have cellK:∀x c,X.env.cells.lookup x=some c->∀v,s.heap.IsCell c v->h'.IsCell c v:=λx c e v ⟨o,ho,hd⟩=>by
  have nk:c∉ch:=λz=>(il c z).2.2.1 x c e rfl
  by_cases hc:c∈X.fs
  ·obtain⟨sl,q⟩:=slot c o (I.cne x c e) hc nk ho (I.freeC x c e);exact⟨_,q,hd⟩
  ·exact⟨o,keep c o (I.cne x c e) hc nk ho (I.freeC x c e),hd⟩
 refine⟨I.ok,I.os,hg,⟨λb o e n hb hx=>?_,λb o e n hb hx=>?_,λb o e n hx=>?_,λb o e hx=>?_,λb xs e=>tups b xs (I.base.tups b xs e),λb o xs e=>frzs b o xs (I.base.frzs b o xs e),λb ps e=>?_⟩,?_,λx c e=>?_,?_,λx c e=>?_,λp hp=>?_,hok,I.len⟩
 ·exact keep b o (vz b o e) hb (qa b o e hx) (I.base.keep b o e n hb hx) (I.base.free b o e n hx)
 ·obtain⟨sl,e1⟩:=I.base.slot b o e n hb hx;obtain⟨OS,e2⟩:=slot b _ (vz b o e) hb (qa b o e hx) e1 (I.base.free b o e n hx);exact⟨OS,e2⟩
 ·obtain⟨o',e1⟩:=I.base.there b o e hx;exact free b o' (qa b o e hx) e1 (I.base.free b o e n hx)
 ·obtain⟨o',e1⟩:=I.base.there b o e hx;exact there b o' (qa b o e hx) e1
 ·obtain⟨m1,e1⟩:=I.base.tbls b ps e;obtain⟨m2,e2⟩:=tbls b _ e1;exact⟨m1++m2,by rw[e2,Array.append_assoc]⟩
 ·obtain⟨m,hn,hl⟩:=I.loc;refine⟨m,ns m hn,λi x v e1 e2 e3=>?_⟩;obtain⟨u,r,l⟩:=hl i x v e1 e2 e3;refine⟨u,r,?_⟩;rcases l with l|⟨k,c,e,z⟩
  ·exact .inl l
  ·exact .inr ⟨k,c,e,cellK x c e _ z⟩
 ·obtain⟨v,z⟩:=I.cell x c e;exact⟨v,cellK x c e v z⟩
 ·obtain⟨m,⟨o,_,_,ho,_⟩,_⟩:=I.loc;exact free _ o (λz=>(il _ z).2.1 rfl) ho I.free
 ·obtain⟨v,o,ho,hd⟩:=I.cell x c e;exact free c o (λz=>(il c z).2.2.1 x c e rfl) ho (I.freeC x c e)
 ·obtain⟨e,n,ne,nf,d⟩:=I.pin p hp;have nk:p.1∉ch:=λz=>(il p.1 z).2.2.2 p hp rfl;exact⟨keep p.1 p.2 ne nf nk e n,free p.1 p.2 nk e n,ne,nf,d⟩
theorem Inv.un{σ:List (Option V)}(I:Inv X pins σ H s)(u:Un X.fs [] H H' s.heap h')(hok:HOk X.prog X.w H' h'):Inv X pins σ H' { s with heap:=h',toks:=t' }:=by
 obtain⟨m,⟨o,es,ep,ho,r⟩,_⟩:=id I.loc;obtain⟨sl,hL⟩:=u.any ho I.free (by simp);exact I.step (g':=s.gens) (d':=s.drawn) (ch:=[]) (λ_ z=>nomatch z) (λb o _ hb _ e n=>u.keep b o e n hb (by simp)) (λb o _ hb _ e n=>u.slot b o e n hb (by simp)) (λb o _ e n=>u.free b o e n (by simp)) (λb o _ e=>u.there b o e (by simp)) u.tups u.frzs u.tbls (λm' hm=>by
  obtain⟨o',gj,gg,dr,r'⟩:=hm;rw[ho]at dr;cases dr;exact⟨_,gj,gg,hL,r'⟩) hok I.bare
theorem Inv.call{σ:List (Option V)}(I:Inv X pins σ H s)(u:Un (frs X.stack) ch H H' s.heap h')(hok:HOk X.prog X.w H' h')(hg:AllBare g')(il:∀b∈ch,(b∈X.ex\/X.s₀.heap.objs.size<=b)/\b≠X.env.locals/\(∀x c,X.env.cells.lookup x=some c->c≠b)/\∀p∈X.pn++pins,p.1≠b):
  Inv X pins σ H' { s with heap:=h',gens:=g',drawn:=d',toks:=t' }:=by
 obtain⟨m,⟨o,es,ep,ho,r⟩,_⟩:=id I.loc;obtain⟨sl,hL⟩:=u.any ho I.free λz=>(il _ z).2.1 rfl;exact I.step (ch:=ch) il (λb o hL hb hc e n=>u.keep b o e n (λz=>(P5.mp (I.stkSub b z)).elim hL hb) hc) (λb o _ _ hc e n=>u.any e n hc) (λb o hc e n=>u.free b o e n hc) (λb o hc e=>u.there b o e hc) u.tups u.frzs u.tbls (λm' hm=>by
  obtain⟨o',gj,gg,dr,r'⟩:=hm;rw[ho]at dr;cases dr;exact⟨_,gj,gg,hL,r'⟩) hok hg
variable{it:Addr}
theorem Inv.turned{σ:List (Option V)}(I:Inv X pins σ H s)(k:∀b o,b≠it->s.heap.get? b=some o->h'.get? b=some o)(hn:H it=none)(hL:it≠X.env.locals)(h1:it∈X.ex\/X.s₀.heap.objs.size<=it)(h2:∀x c,X.env.cells.lookup x=some c->c≠it)(h3:∀p∈X.pn++pins,p.1≠it):Inv X pins σ H { s with heap:=h',toks:=t' }:=by
 have ou:∀b u,H b=some u->b≠it:=λb u e z=>by rw[z,hn]at e;cases e
 refine I.step (g':=s.gens) (d':=s.drawn) (ch:=[it]) (λb hb=>?_) (λb o _ _ hc e _=>k b o (λz=>hc (by simp[z])) e) (λb o _ _ hc e _=>⟨o.slots,k b o (λz=>hc (by simp[z])) e⟩) (λ_ _ _ _ n=>n)
  (λb o hc e=>⟨o,k b o (λz=>hc (by simp[z])) e⟩) (λ_ _ e=>e) (λ_ _ _ e=>e) (λb ps e=>⟨#[],by rw[e];simp⟩) (λm hm=>?_) (λb u e=>?_) I.bare
 ·have e:b=it:=by simpa using hb
  subst e;exact⟨h1,hL,h2,h3⟩
 ·obtain⟨o,es,ep,ho,r⟩:=hm;exact⟨o,es,ep,k _ o (QS hL) ho,r⟩
 ·refine(I.hok b u e).stay (λc v hc q=>k c v ?_ q) (λ_ q=>q) λ_ _ q=>q;rcases hc with z|z
  ·rw[z];exact ou b u e
  ·exact ou c _ z
theorem Inv.tok{σ:List (Option V)}(I:Inv X pins σ H s)(t:Nat):Inv X pins σ H { s with toks:=t }:=I.un (h':=s.heap) (t':=t) Un.refl I.hok
theorem Inv.kept{σ:List (Option V)}(I:Inv X pins σ H s)(k:∀b u,s.heap.get? b=some u->h'.get? b=some u):Inv X pins σ H { s with heap:=h',toks:=t' }:=I.un (Un.kept k) (I.hok.kept k)
theorem Inv.laid{σ:List (Option V)}(I:Inv X pins σ H s)(k:∀b u,s.heap.get? b=some u->h'.get? b=some u)(hp:s.heap.objs.size<=a)(new:bC X.prog X.w (upd H a o) h' a o):
  Inv X pins σ (upd H a o) { s with heap:=h',toks:=t' }:=I.un (Un.laid k hp (I.hok.fresh hp)) (I.hok.laid k hp new)
theorem Inv.write{σ:List (Option V)}{x e:Addr}(I:Inv X pins σ H s)(mu:Mut (H x))(he:e=x\/H e=some (.own x))(k:∀b u,b≠e->s.heap.get? b=some u->h'.get? b=some u)(ie:∃u,h'.get? e=some u)(new:bC X.prog X.w (upd H x o) h' x o):Inv X pins σ (upd H x o) { s with heap:=h',toks:=t' }:=I.un (Un.write mu he k ie) (I.hok.write mu he k ie new)
variable{cz:List (Addr×Obj)}
theorem Inv.pins_of{σ:List (Option V)}(I:Inv X pins σ H s)(h:∀p∈cz,s.heap.get? p.1=some p.2/\H p.1=none/\p.1≠X.env.locals/\p.1∉X.fs/\∀v,p.2.data≠.cell v):Inv X cz σ H s:=
 ⟨I.ok,I.os,I.bare,I.base,I.loc,I.cell,I.free,I.freeC,λp hp=>(Ql.mp hp).elim (λz=>I.pin p (Qx _ z)) (h p),I.hok,I.len⟩
variable{N:List Str}{i j:Nat}{x:Str}
theorem zW(hN:N.Nodup)(a:N[i]?=some x)(b:N[j]?=some x):i=j:=by
 obtain⟨h1,e1⟩:=Pv.mp a;obtain⟨h2,e2⟩:=Pv.mp b;exact(List.getElem_inj hN).mp (e1.trans e2.symm)
variable{A:Around}{E:Value->Shared->Prop}{M:Model}{v:V}
theorem vL{σ:List (Option V)}{Q:Unit->Shared->Prop}(I:Inv X pins σ H s)(hN:X.N.Nodup)(hi:X.N[i]?=some x)(hx:Loc X.env.scope x)(r:RelV v u)(h:∀s',Inv X pins (σ.set i (some v)) H s'->(∃a,Ra a s.heap s'.heap/\(a=X.env.locals\/X.env.cells.lookup x=some a))->Q () s')(hf:X.fn x=true\/X.env.scope.names.lookup x=some .local:=by first|exact .inl rfl|exact .inr rfl|assumption):wpAny M A (storeName X.env x u) Q E s:=by
 obtain⟨m,hn,hl⟩:=id I.loc;have sr:(X.env.scope.kind == .class || (X.env.scope.kind == .module&&X.env.locals != X.env.globals))=false:=by rw[I.ok.kind];rfl
 have v8:i<σ.length:=by rw[I.len];exact(Pv.mp hi).1
 have cne:=I.cne;have tracked:∀{a:Addr}{h':Heap},(∃o,s.heap.get? a=some o/\H a=none)->Ra a s.heap h'->HOk X.prog X.w H h':=λ{a h'} ha hs b ob e=>by
  obtain⟨_,_,jl⟩:=ha;refine(I.hok b ob e).stay (λc w' hc q=>(hs.2 c ?_).trans q) (λ_ q=>q) λ_ _ q=>q;rintro rfl;rcases hc with rfl|hc
  ·rw[jl]at e;cases e
  ·rw[jl]at hc;cases hc
 rcases hx with hk|hk
 ·refine wpAny_storeName_local hk hn (λh' qc hs=>?_) sr;obtain⟨oL,_,_,iy,_⟩:=id hn;refine h _ ⟨I.ok,I.os,I.bare,⟨λb o e n hb hx=>?_,λb o e n hb hx=>?_,I.base.free,λb o e hx=>?_,I.base.tups,I.base.frzs,I.base.tbls⟩,⟨_,qc,λj y v' e1 e2 e3=>?_⟩,λy c e=>?_,I.free,I.freeC,λp hp=>?_,tracked ⟨oL,iy,I.free⟩ hs,by simpa using I.len⟩ ⟨_,hs,.inl rfl⟩
  ·exact(hs.2 b (P9 (P6 (PU e) I.ok.above))).trans (I.base.keep b o e n hb hx)
  ·obtain⟨sl,e1⟩:=I.base.slot b o e n hb hx;exact⟨sl,(hs.2 b (P9 (P6 (PU e) I.ok.above))).trans e1⟩
  ·obtain⟨o',e1⟩:=I.base.there b o e hx;exact⟨o',(hs.2 b (P9 (P6 (PU e) I.ok.above))).trans e1⟩
  ·by_cases hj:j=i
   ·subst hj;rw[hi]at e1;cases e1;rw[Q3 v8]at e2;cases e2
    exact⟨u,r,.inl ⟨hk,by simp⟩⟩
   ·rw[QQ (QS hj)]at e2;obtain⟨u',r',q⟩:=hl j y v' e1 e2 e3;refine⟨u',r',?_⟩;rcases q with⟨k,e⟩|⟨k,c,e,z⟩
    ·refine .inl ⟨k,?_⟩;have:y≠x:=λe=>hj (zW hN e1 (e▸hi));simp[this,e]
    ·exact .inr ⟨k,c,e,z.sameBut hs (cne y c e)⟩
  ·obtain⟨w',z⟩:=I.cell y c e;exact⟨w',z.sameBut hs (cne y c e)⟩
  ·obtain⟨e,n,ne,nf,d⟩:=I.pin p hp;exact⟨(hs.2 p.1 ne).trans e,n,ne,nf,d⟩
 ·have sy:X.fn x=true:=by
   rcases hf with z|z
   ·exact z
   ·rw[z]at hk;cases hk
  obtain⟨c,hc⟩:=I.ok.has x (.inl hk);obtain⟨w',z⟩:=I.cell x c hc;refine wpAny_storeName_cell I.ok.kind hk hc z (λh' ot hs=>?_);obtain⟨oc,ij,ux⟩:=id z;refine h { s with heap:=h' } ⟨I.ok,I.os,I.bare,⟨λb o e n hb hx=>?_,λb o e n hb hx=>?_,I.base.free,λb o e hx=>?_,I.base.tups,I.base.frzs,I.base.tbls⟩,⟨m,hn.sameBut hs (QS (cne x c hc)),λj y v' e1 e2 e3=>?_⟩,λy c' e=>?_,I.free,I.freeC,λp hp=>?_,tracked ⟨oc,ij,I.freeC x c hc⟩ hs,by simpa using I.len⟩ ⟨c,hs,.inr hc⟩
  ·exact(hs.2 b (P9 (P6 (PU e) (I.ok.cab x c sy hc)))).trans (I.base.keep b o e n hb hx)
  ·obtain⟨sl,e1⟩:=I.base.slot b o e n hb hx;exact⟨sl,(hs.2 b (P9 (P6 (PU e) (I.ok.cab x c sy hc)))).trans e1⟩
  ·obtain⟨o',e1⟩:=I.base.there b o e hx;exact⟨o',(hs.2 b (P9 (P6 (PU e) (I.ok.cab x c sy hc)))).trans e1⟩
  ·by_cases hj:j=i
   ·subst hj;rw[hi]at e1;cases e1;rw[Q3 v8]at e2;cases e2
    exact⟨u,r,.inr ⟨.inl hk,c,hc,ot⟩⟩
   ·rw[QQ (QS hj)]at e2;obtain⟨u',r',q⟩:=hl j y v' e1 e2 e3;refine⟨u',r',?_⟩;rcases q with q|⟨k,c',e,z'⟩
    ·exact .inl q
    ·refine .inr ⟨k,c',e,z'.sameBut hs ?_⟩;rintro rfl;exact hj (zW hN e1 (I.ok.inj _ _ _ e hc▸hi))
  ·by_cases hcc:c'=c
   ·subst hcc;exact⟨_,ot⟩
   ·obtain⟨w2,z2⟩:=I.cell y c' e;exact⟨w2,z2.sameBut hs hcc⟩
  ·obtain⟨e,n,ne,nf,d⟩:=I.pin p hp;refine⟨(hs.2 p.1 ?_).trans e,n,ne,nf,d⟩;intro q;rw[q,ij]at e;have q':oc=p.2:=P4 e;exact d w' (by rw[<-q'];exact ux)
theorem zX{σ:List (Option V)}{Q:Unit->Shared->Prop}(I:Inv X pins σ H s)(hN:X.N.Nodup)(hi:X.N[i]?=some x)(hx:Loc X.env.scope x)(r:RelV v u)(h:∀s',Inv X pins (σ.set i (some v)) H s'->Q () s')(hf:X.fn x=true\/X.env.scope.names.lookup x=some .local:=by first|exact .inl rfl|exact .inr rfl|assumption):wpAny M A (storeName X.env x u) Q E s:=
 vL I hN hi hx r (λs' I' _=>h s' I') hf
variable{s':Shared}
theorem Inv.call'{σ:List (Option V)}(I:Inv X pins σ H s)(ho:s'.os=s.os)(u:Un (frs X.stack) ch H H' s.heap s'.heap)(hok:HOk X.prog X.w H' s'.heap)(hg:AllBare s'.gens)(il:∀b∈ch,(b∈X.ex\/X.s₀.heap.objs.size<=b)/\b≠X.env.locals/\(∀x c,X.env.cells.lookup x=some c->c≠b)/\∀p∈X.pn++pins,p.1≠b):Inv X pins σ H' s':=by
 obtain⟨h',g',d',t',o'⟩:=s';have e:o'=s.os:=ho;subst e;exact I.call (g':=g') (t':=t') (d':=d') u hok hg il
abbrev XK:=Value->Option Addr->Hp->Prop
abbrev St:=List (Option V)
abbrev VK:=V->Hp->Prop
abbrev TE:=St->Hp->VK->Prop
abbrev TT:=St->Hp->(Bool->Hp->Prop)->Prop
abbrev TA:=St->Hp->(List V->Hp->Prop)->Prop
structure Ends where
 nx:St->Hp->Prop
 rt:VK
 bk:St->Hp->Prop:=λ_ _=>False
 ct:St->Hp->Prop:=λ_ _=>False
abbrev TS:=Ends->St->Hp->Prop
def EP(X:Cx)(pins:List (Addr×Obj))(σ:St)(Q:VK)(u:Value)(s':Shared):Prop:=∃v H',Inv X pins σ H' s'/\RelV v u/\Q v H'
def TP(X:Cx)(pins:List (Addr×Obj))(σ:St)(Q:Bool->Hp->Prop)(b:Bool)(s':Shared):Prop:=∃H',Inv X pins σ H' s'/\Q b H'
def AP(X:Cx)(pins:List (Addr×Obj))(σ:St)(Q:List V->Hp->Prop)(us:List Value)(s':Shared):Prop:=∃vs H',Inv X pins σ H' s'/\aI vs us/\Q vs H'
def SP(X:Cx)(pins:List (Addr×Obj))(D:Ends)(f:Flow)(s':Shared):Prop:=
 match f with
 |.next=>∃σ' H',Inv X pins σ' H' s'/\D.nx σ' H'
 |.brk=>∃σ' H',Inv X pins σ' H' s'/\D.bk σ' H'
 |.cont=>∃σ' H',Inv X pins σ' H' s'/\D.ct σ' H'
 |.ret u=>∃v σ' H',Inv X pins σ' H' s'/\RelV v u/\D.rt v H'
def PE(X:Cx)(e:Expr)(t:TE):Prop:=
 ∀(pins:List (Addr×Obj))(s:Shared)(σ:St)(H:Hp)(Q:VK),Inv X pins σ H s->t σ H Q->wpAny (model X.prog X.w) X.A (eval e X.env) (EP X pins σ Q) X.xe s
def PT(X:Cx)(e:Expr)(t:TT):Prop:=
 ∀(pins:List (Addr×Obj))(s:Shared)(σ:St)(H:Hp)(Q:Bool->Hp->Prop),Inv X pins σ H s->t σ H Q->wpAny (model X.prog X.w) X.A (isTrue e X.env (eval e X.env)) (TP X pins σ Q) X.xe s
def PW(X:Cx)(e:Expr)(t:TT):Prop:=
 ∀(whole:Sem Value)(pins:List (Addr×Obj))(s:Shared)(σ:St)(H:Hp)(Q:Bool->Hp->Prop),Inv X pins σ H s->t σ H Q->wpAny (model X.prog X.w) X.A (isTrue e X.env whole) (TP X pins σ Q) X.xe s
variable{e:Expr}
theorem PW.pt{t:TT}(h:PW X e t):PT X e t:=h _
def PA(X:Cx)(es:List Expr)(t:TA):Prop:=
 ∀(pos:Pos)(pins:List (Addr×Obj))(s:Shared)(σ:St)(H:Hp)(Q:List V->Hp->Prop),Inv X pins σ H s->t σ H Q->wpAny (model X.prog X.w) X.A (spliced (backTo pos (P3 es X.env))) (AP X pins σ Q) X.xe s
def PS(X:Cx)(st:Stmt)(t:TS):Prop:=
 ∀(pins:List (Addr×Obj))(s:Shared)(σ:St)(H:Hp)(D:Ends),Inv X pins σ H s->t D σ H->wpAny (model X.prog X.w) X.A (exec st X.env) (SP X pins D) X.xe s
def PSs(X:Cx)(st:List Stmt)(t:TS):Prop:=
 ∀(pins:List (Addr×Obj))(s:Shared)(σ:St)(H:Hp)(D:Ends),Inv X pins σ H s->t D σ H->wpAny (model X.prog X.w) X.A (execs st X.env) (SP X pins D) X.xe s
theorem thn{α:Type}{t:Sem α}{Q Q':α->Shared->Prop}(h:wpAny M A t Q E s)(hQ:∀a s,Q a s->Q' a s):wpAny M A t Q' E s:=RB h hQ λ_ _ x=>x
variable{pos:Pos}{Q:Value->Shared->Prop}{σ:St}{tA:TT}{qd:TT}{ta:TE}
section
def Ny(i:Nat):TE:=λσ H Q=>∃v,σ[i]?=some (some v)/\Q v H
def tC(v:V):TE:=λ_ H Q=>Q v H
theorem DX(hN:X.N[i]?=some x)(hv:Vis X.env.scope x)(hd:(x == ("__debug__" : Str))=false:=by decide)(fh:(x == ("__classdict__" : Str))=false:=by decide):PE X (.Name x pos) (Ny i):=by
 intro pins s σ H Q I h;obtain⟨v,e,h⟩:=h;obtain⟨m,hn,hl⟩:=I.loc;obtain⟨u,r,l⟩:=hl i x v hN e hv;have fin:EP X pins σ Q u s:=⟨v,H,I,r,h⟩;rcases l with⟨hk,hm⟩|⟨hk,c,hc,dt⟩
 ·exact wpAny_Name (wpAny_loadName_local I.ok.kind hk hn hm fin) hd
 ·rcases hk with hk|hk
  ·exact wpAny_Name (wpAny_loadName_cell I.ok.kind hk hc dt fin) hd
  ·exact wpAny_Name (wpAny_loadName_free I.ok.kind hk hc dt fin fh) hd
theorem J7{i j pos}:PE X (.Constant (.int i) j pos) (tC (.int i)):=λ_ _ _ H _ I h=>wpAny_Constant_int ⟨.int i,H,I.tok _,⟨_,rfl⟩,h⟩
theorem L'{b j pos}:PE X (.Constant (.bool b) j pos) (tC (.bl b)):=λ_ _ _ H _ I h=>Constant_bool ⟨.bl b,H,I,rfl,h⟩
theorem J8{j pos}:PE X (.Constant .none j pos) (tC .non):=λ_ _ _ H _ I h=>Constant_none ⟨.non,H,I,rfl,h⟩
theorem J9{x j pos}:PE X (.Constant (.str x) j pos) (tC (.str x)):=λ_ _ _ H _ I h=>Calls.Constant_str ⟨.str x,H,I.tok _,⟨_,rfl⟩,h⟩
def Gl(X:Cx)(x:Str):Prop:=X.env.kindOf x=some .globalImplicit
theorem iM(I:Inv X pins σ H s)(hg:Gl X x)(hm:X.mg x=some u)(h:Q u s)(hd:(x == ("__debug__" : Str))=false:=by decide):wpAny (model X.prog X.w) X.A (eval (.Name x pos) X.env) Q E s:=
 Calls.Name_function_global I.ok.kind hg (Calls.loadGlobal_global (by rw[I.ok.glob];exact I.mod.glob.keeps I.bk) hm h) hd
theorem jW(I:Inv X pins σ H s)(hg:Gl X x)(hm:X.mg x=none)(hv:RT x=some u)(h:Q u s)(hn:x≠"__name__" := by decide)(hd:(x == ("__debug__" : Str))=false:=by decide):wpAny (model X.prog X.w) X.A (eval (.Name x pos) X.env) Q E s:=by
 obtain⟨mb,h1,h2⟩:=I.mod.blt;exact Calls.Name_function_global I.ok.kind hg (Calls.loadGlobal_builtin (by rw[I.ok.glob];exact I.mod.glob.keeps I.bk) hm (by rw[I.ok.blt];exact h1.keeps I.bk) ((h2 x hn).trans hv) h) hd
theorem BS(hg:Gl X x)(hm:X.mg x=some u)(r:RelV v u)(hd:(x == ("__debug__" : Str))=false:=by decide):PE X (.Name x pos) (tC v):=
 λ_ _ _ H _ I h=>iM I hg hm ⟨v,H,I,r,h⟩ hd
theorem Gw(hg:Gl X x)(hm:X.mg x=none)(hv:RT x=some u)(r:RelV v u)(hn:x≠"__name__" := by decide)(hd:(x == ("__debug__" : Str))=false:=by decide):PE X (.Name x pos) (tC v):=
 λ_ _ _ H _ I h=>jW I hg hm hv ⟨v,H,I,r,h⟩ hn hd
variable{a b:Expr}{tb:TE}{rest:List Expr}
def Nz(t u:TT):TT:=λσ H Q=>t σ H λc H1=>if c=true then u σ H1 Q else Q false H1
def tOr(t u:TT):TT:=λσ H Q=>t σ H λc H1=>if c=true then Q true H1 else u σ H1 Q
def NA(t:TT):TT:=λσ H Q=>t σ H λc H1=>Q (!c) H1
theorem Gx(ha:PT X a tA):PW X (.BoolOp .And [a] pos) tA:=by
 intro wh pins s σ H Q I h;refine isTrue_and (thn (ha pins s σ H Q I h) λc s1 e=>?_);cases c with
 |true=>exact isTrue_and_nil e
 |false=>exact e
theorem J'(ha:PT X a tA):PW X (.BoolOp .Or [a] pos) tA:=by
 intro wh pins s σ H Q I h;refine isTrue_or (thn (ha pins s σ H Q I h) λc s1 e=>?_);cases c with
 |false=>exact isTrue_or_nil e
 |true=>exact e
theorem Ja(ha:PT X a tA)(hb:PW X (.BoolOp .And (b::rest) pos) qd):PW X (.BoolOp .And (a::b::rest) pos) (Nz tA qd):=by
 intro wh pins s σ H Q I h;refine isTrue_and (thn (ha pins s σ H _ I h) λc s1 ⟨H1,I1,q1⟩=>?_);cases c with
 |true=>exact hb wh pins s1 σ H1 Q I1 q1
 |false=>exact⟨H1,I1,q1⟩
theorem La(ha:PT X a tA)(hb:PW X (.BoolOp .Or (b::rest) pos) qd):PW X (.BoolOp .Or (a::b::rest) pos) (tOr tA qd):=by
 intro wh pins s σ H Q I h;refine isTrue_or (thn (ha pins s σ H _ I h) λc s1 ⟨H1,I1,q1⟩=>?_);cases c with
 |true=>exact⟨H1,I1,q1⟩
 |false=>exact hb wh pins s1 σ H1 Q I1 q1
theorem Jb(ha:PT X a tA):PT X (.UnaryOp .Not a pos) (NA tA):=by
 intro pins s σ H Q I h;exact isTrue_not (ha pins s σ H (λc H1=>Q (!c) H1) I h)
theorem Jc{op}{t:TE}(h:PE X a t):PE X (.BoolOp op [a] pos) t:=λpins s σ H Q I hw=>BoolOp_one (h pins s σ H Q I hw)
def tIf(t:TT)(ta tb:TE):TE:=λσ H Q=>t σ H λc H1=>if c=true then ta σ H1 Q else tb σ H1 Q
theorem DY{c:Expr}(hc:PT X c tA)(ha:PE X a ta)(hb:PE X b tb):PE X (.IfExp c a b pos) (tIf tA ta tb):=by
 intro pins s σ H Q I h;refine wpAny_IfExp (thn (hc pins s σ H _ I h) λd s1 ⟨H1,I1,q1⟩=>?_);cases d with
 |true=>exact ha pins s1 σ H1 Q I1 q1
 |false=>exact hb pins s1 σ H1 Q I1 q1
end
def SqL(K:Py)(H:Hp)(a:Addr)(xs:List V):Prop:=
 Rd H a (.lst xs)\/
  ∃(o:Obj)(its:Array Value)(n:Nat),K.lookup a=some o/\o.cls=.type "list" /\ o.dict=none/\o.data=.seq its n/\its.size<=PP/\aI xs its.toList
def SqT(K:Py)(H:Hp)(a:Addr)(xs:List V):Prop:=
 Rd H a (.tup xs)\/
  ∃(o:Obj)(its:Array Value)(n:Nat),K.lookup a=some o/\o.cls=.type "tuple" /\ o.data=.seq its n/\its.size<=PP/\aI xs its.toList/\o.dict=none
def NB:Value->Option V
 |.none=>some .non
 |.bool b=>some (.bl b)
 |.int i _=>some (.int i)
 |.str x _=>some (.str x)
 |.bytes b _=>some (.byt b)
 |.float b _=>some (.flt b)
 |.ref a=>some (.ref a)
 |.type n=>some (.ty n)
 |_=>none
theorem RelV.abs{x:V}(r:RelV x u):NB u=some x:=by
 cases x with
 |non=>cases r;rfl
 |bl _=>cases r;rfl
 |int _=>obtain⟨t,rfl⟩:=r;rfl
 |str _=>obtain⟨t,rfl⟩:=r;rfl
 |byt _=>obtain⟨t,rfl⟩:=r;rfl
 |flt _=>obtain⟨t,rfl⟩:=r;rfl
 |ref _=>cases r;rfl
 |ty _=>cases r;rfl
variable{y:V}
theorem RelV.inj{x:V}(r:RelV x u)(q:RelV y u):x=y:=P4 (r.abs.symm.trans q.abs)
theorem aI.inj:∀{xs ys:List V}{us:List Value},aI xs us->aI ys us->xs=ys
 |_,_,_,.nil,.nil=>rfl
 |_,_,_,.cons r t,.cons r' t'=>by rw[r.inj r',aI.inj t t']
variable{K:Py}
theorem SqL.of{xs:List V}(h:H a=some (.lst xs)):SqL K H a xs:=.inl (.inl h)
theorem SqT.of{xs:List V}(h:H a=some (.tup xs)):SqT K H a xs:=.inl (.inl h)
theorem Inv.list{xs:List V}(I:Inv X pins σ H s)(h:SqL X.K H a xs):∃its:List Value,aI xs its/\PlainL s.heap a its.toArray/\xs.length<=PP:=by
 rcases h with h|⟨o,its,n,hk,hc,hd,hs,hz,r⟩
 ·obtain⟨z,its,n,r,e⟩:=h.ok I.hok;exact⟨its,r,⟨_,n,e,rfl,rfl,rfl⟩,z⟩
 ·refine⟨its.toList,r,⟨o,n,I.kIn a o hk,hc,hd,by simpa using hs⟩,?_⟩
  have e:=r.length;simp only[Sg]at e;omega
theorem Inv.tuple{xs:List V}(I:Inv X pins σ H s)(h:SqT X.K H a xs):∃its:List Value,aI xs its/\IsTup s.heap a its.toArray/\xs.length<=PP:=by
 rcases h with h|⟨o,its,n,hk,hc,hs,hz,r,_⟩
 ·obtain⟨z,its,r,p⟩:=h.ok I.hok;exact⟨its,r,p.is,z⟩
 ·refine⟨its.toList,r,⟨o,I.kIn a o hk,hc,n,by simpa using hs⟩,?_⟩
  have e:=r.length;simp only[Sg]at e;omega
theorem Inv.list_inj{xs:List V}{ys:List V}(I:Inv X pins σ H s)(h:SqL X.K H a xs)(h':SqL X.K H a ys):xs=ys:=by
 obtain⟨its,r,⟨o,n,e,_,_,d⟩,_⟩:=I.list h;obtain⟨its',r',⟨o',n',e',_,_,d'⟩,_⟩:=I.list h';rw[e]at e';cases e';rw[d]at d';injection d' with d1 _;have:its=its':=by simpa using congrArg Array.toList d1
 subst this;exact r.inj r'
theorem Inv.tuple_inj{xs:List V}{ys:List V}(I:Inv X pins σ H s)(h:SqT X.K H a xs)(h':SqT X.K H a ys):xs=ys:=by
 obtain⟨its,r,⟨o,e,_,n,d⟩,_⟩:=I.tuple h;obtain⟨its',r',⟨o',e',_,n',d'⟩,_⟩:=I.tuple h';rw[e]at e';cases e';rw[d]at d';injection d' with d1 _;have:its=its':=by simpa using congrArg Array.toList d1
 subst this;exact r.inj r'
abbrev Cx.wish(X:Cx)(E:Value->Shared->Prop):Cx:={ X with xe:=E }
abbrev Cx.nox(X:Cx):Cx:=X.wish λ_ _=>False
theorem Cx.Ok.wish(ok:X.Ok)(E:Value->Shared->Prop):(X.wish E).Ok:=
 ⟨ok.mod,ok.kind,ok.glob,ok.blt,ok.above,ok.inj,ok.has,ok.cab,ok.hd,ok.frames,ok.stk,ok.exf,ok.bs,ok.bsz,ok.noex,ok.exfs,ok.funs,ok.frf⟩
theorem Cx.Ok.unwish(ok:(X.wish E).Ok):X.Ok:=
 ⟨ok.mod,ok.kind,ok.glob,ok.blt,ok.above,ok.inj,ok.has,ok.cab,ok.hd,ok.frames,ok.stk,ok.exf,ok.bs,ok.bsz,ok.noex,ok.exfs,ok.funs,ok.frf⟩
theorem Inv.wish(I:Inv X pins σ H s)(E:Value->Shared->Prop):Inv (X.wish E) pins σ H s:=⟨I.ok.wish E,I.os,I.bare,I.base,I.loc,I.cell,I.free,I.freeC,I.pin,I.hok,I.len⟩
theorem Inv.unwish(I:Inv (X.wish E) pins σ H s):Inv X pins σ H s:=⟨I.ok.unwish,I.os,I.bare,I.base,I.loc,I.cell,I.free,I.freeC,I.pin,I.hok,I.len⟩
theorem SP.unwish{D:Ends}{f:Flow}(h:SP (X.wish E) pins D f s'):SP X pins D f s':=by
 cases f with
 |next=>obtain⟨σ',H',I,q⟩:=h;exact⟨σ',H',I.unwish,q⟩
 |brk=>obtain⟨σ',H',I,q⟩:=h;exact⟨σ',H',I.unwish,q⟩
 |cont=>obtain⟨σ',H',I,q⟩:=h;exact⟨σ',H',I.unwish,q⟩
 |ret u=>obtain⟨v,σ',H',I,r,q⟩:=h;exact⟨v,σ',H',I.unwish,r,q⟩
theorem PSs.nox{st:List Stmt}{t:TS}(h:PSs X.nox st t):PSs X st t:=λpins s σ H D I hw=>
 RB (h pins s σ H D (I.wish _) hw) (λ_ _ q=>q.unwish) λ_ _ z=>Rn z
variable{st:Stmt}{te:TE}{tc:TT}
section
variable{rest:List Stmt}{t u:TS}
def Lb:TS:=λD σ H=>D.nx σ H
def NC(t u:TS):TS:=λD σ H=>t { D with nx:=u D } σ H
theorem Gy:PSs X [] Lb:=λ_ _ σ H _ I h=>wpAny_execs_nil ⟨σ,H,I,h⟩
theorem DZ(h1:PS X st t)(h2:PSs X rest u):PSs X (st::rest) (NC t u):=by
 intro pins s σ H D I h;refine wpAny_execs_cons (thn (h1 pins s σ H { D with nx:=u D } I h) λf s1 q=>?_);cases f with
 |next=>
  obtain⟨σ',H',I',q⟩:=q;exact h2 pins s1 σ' H' D I' q
 |ret v=>exact q
 |brk=>exact q
 |cont=>exact q
theorem Gz(h1:PS X st t):PSs X [st] t:=by
 intro pins s σ H D I h;refine wpAny_execs_cons (thn (h1 pins s σ H D I h) λf s1 q=>?_);cases f with
 |next=>exact wpAny_execs_nil q
 |ret v=>exact q
 |brk=>exact q
 |cont=>exact q
def Lc:TS:=λD σ H=>D.ct σ H
theorem zY:PS X (.Continue pos) Lc:=λ_ _ σ H _ I h=>wpAny_Continue ⟨σ,H,I,h⟩
theorem Inv.quiet(I:Inv X pins σ H s):interactive X.env=false:=by simp[interactive,I.ok.kind]
def Ld(te:TE):TS:=λD σ H=>te σ H λ_ H1=>D.nx σ H1
theorem GA(he:PE X e te)(hs:S8 e none pos.line X.env=pure false:=by rfl):PS X (.Expr e pos) (Ld te):=by
 intro pins s σ H D I h;exact wpAny_Expr_any (thn (he pins s σ H _ I h) λv s1 ⟨x,H1,I1,r1,q1⟩=>⟨σ,H1,I1,q1⟩) I.quiet hs
def ND(te:TE):TS:=λD σ H=>te σ H D.rt
theorem Jd(he:PE X e te):PS X (.Return (some e) pos) (ND te):=by
 intro pins s σ H D I h;exact wpAny_Return_some (thn (he pins s σ H _ I h) λv s1 ⟨x,H1,I1,r1,q1⟩=>⟨x,σ,H1,I1,r1,q1⟩)
def NF(c:TT)(t u:TS):TS:=λD σ H=>c σ H λb H1=>if b=true then t D σ H1 else u D σ H1
theorem Le{c:Expr}{a b:List Stmt}(hc:PT X c tc)(ha:PSs X a t)(hb:PSs X b u):PS X (.If c a b pos) (NF tc t u):=by
 intro pins s σ H D I h;refine wpAny_If (thn (hc pins s σ H _ I h) λd s1 ⟨H1,I1,q1⟩=>?_);cases d with
 |true=>exact ha pins s1 σ H1 D I1 q1
 |false=>exact hb pins s1 σ H1 D I1 q1
end
abbrev TG:=V->St->Hp->(St->Hp->Prop)->Prop
abbrev TGs:=List V->St->Hp->(St->Hp->Prop)->Prop
def PG(X:Cx)(target:Expr)(t:TG):Prop:=
 ∀(pins:List (Addr×Obj))(s:Shared)(σ:St)(H:Hp)(v:V)(u:Value)(Q:St->Hp->Prop),Inv X pins σ H s->RelV v u->t v σ H Q->
  wpAny (model X.prog X.w) X.A (assign target X.env u) (λ_ s'=>∃σ' H',Inv X pins σ' H' s'/\Q σ' H') X.xe s
def PGs(X:Cx)(ts:List Expr)(t:TGs):Prop:=
 ∀(pins:List (Addr×Obj))(s:Shared)(σ:St)(H:Hp)(vs:List V)(us:List Value)(Q:St->Hp->Prop),Inv X pins σ H s->aI vs us->t vs σ H Q->
  wpAny (model X.prog X.w) X.A (assignInOrder ((RS ts X.env).map (·.2)) us) (λ_ s'=>∃σ' H',Inv X pins σ' H' s'/\Q σ' H') X.xe s
abbrev NG:=V->V->V->Hp->(Hp->Prop)->Prop
def NH(X:Cx)(t:NG):Prop:=
 ∀(pins:List (Addr×Obj))(s:Shared)(σ:St)(H:Hp)(o i v:V)(ov iv u:Value)(Q:Hp->Prop),Inv X pins σ H s->RelV o ov->RelV i iv->RelV v u->t o i v H Q->
  wpAny (model X.prog X.w) X.A (setItem ov iv u) (λ_ s'=>∃H',Inv X pins σ H' s'/\Q H') X.xe s
def E1(i:Nat):TG:=λv σ H Q=>Q (σ.set i (some v)) H
theorem GB(hN:X.N.Nodup)(hi:X.N[i]?=some x)(hx:Loc X.env.scope x)(hf:X.fn x=true\/X.env.scope.names.lookup x=some .local:=by first|exact .inl rfl|exact .inr rfl|assumption):PG X (.Name x pos) (E1 i):=by
 intro pins s σ H v u Q I r h;exact wpAny_assign_Name (zX I hN hi hx r (λs' I'=>⟨_,H,I',h⟩) hf)
def NI:TGs:=λvs σ H Q=>vs=[]/\Q σ H
def Lf(t:TG)(u:TGs):TGs:=λvs σ H Q=>∃v r,vs=v::r/\t v σ H λσ' H'=>u r σ' H' Q
theorem GC:PGs X [] NI:=by
 intro pins s σ H vs us Q I r h;obtain⟨e,h⟩:=h;subst e;cases r
 exact assignInOrder_nil ⟨σ,H,I,h⟩
variable{es:List Expr}
theorem E2{t:TG}{u:TGs}(h1:PG X e t)(h2:PGs X es u)(hs:(RS (e::es) X.env).map (·.2)=assign e X.env::(RS es X.env).map (·.2):=by rfl):PGs X (e::es) (Lf t u):=by
 intro pins s σ H vs us Q I r h;obtain⟨v,vr,e1,h⟩:=h;subst e1;cases r with
 |cons r rr=>
  rw[hs];refine assignInOrder_cons (thn (h1 pins s σ H _ _ _ I r h) λ_ s1 ⟨σ1,H1,I1,q1⟩=>?_);exact h2 pins s1 σ1 H1 _ _ Q I1 rr q1
def Lg(K:Py)(n:Nat)(t:TGs):TG:=λv σ H Q=>∃a xs,v=.ref a/\SqT K H a xs/\xs.length=n/\t xs σ H Q
variable{n:Nat}
theorem Je{k:Nat}{t:TGs}(hc:X.calm=true)(h:PGs X es t)(hn:(RS es X.env).length=n:=by rfl)(e7:(RS es X.env).findIdx? (·.1)=none:=by rfl):PG X (.Tuple es k pos) (Lg X.K n t):=by
 intro pins s σ H v u Q I r hw;obtain⟨a,xs,e1,hq,hl,hw⟩:=hw;subst e1;cases r
 obtain⟨its,rv,ht,hz⟩:=I.tuple hq;refine assign_Tuple_tuple (I.ok.hd hc) ht (by simp[hn,<-hl,rv.length]) e7 λh' hx=>?_;have I1:Inv X pins σ H { s with heap:=h' }:=I.kept (t':=s.toks) λb o e=>hx b o (P9 (PU e)) e;exact h pins _ σ H xs _ Q I1 (by simpa using rv) hw
def Jf(te:TE)(g:TG):TS:=λD σ H=>te σ H λx H1=>g x σ H1 D.nx
variable{tg:Expr}
theorem Jg{g:TG}(he:PE X e te)(hg:PG X tg g)(hs:swapsWithSole [tg] e pos.line X.env=pure false:=by rfl)(hw:swappedStores [tg] e X.env=pure none:=by rfl)(h1:(RS [tg] X.env).map (·.2)=[assign tg X.env]:=by rfl):PS X (.Assign [tg] e pos) (Jf te g):=by
 intro pins s σ H D I h;refine wpAny_Assign_stores (thn (he pins s σ H _ I h) λv s1 hz=>?_) hs hw;obtain⟨x,H1,I1,r1,q1⟩:=hz;rw[h1];exact thn (hg pins s1 σ H1 x v _ I1 r1 q1) λ_ s2 q=>q
variable{pos':Pos}
theorem Jh(hN:X.N.Nodup)(hi:X.N[i]?=some x)(hx:Loc X.env.scope x)(he:PE X e te)(hs:S8 e (some (.Name x pos')) pos.line X.env=pure false:=by rfl)(hf:X.fn x=true\/X.env.scope.names.lookup x=some .local:=by first|exact .inl rfl|exact .inr rfl|assumption):
  PS X (.Assign [.Name x pos'] e pos) (Jf te (E1 i)):=by
 intro pins s σ H D I h;refine wpAny_Assign_Name (thn (he pins s σ H _ I h) λv s1 hz=>?_) hs;obtain⟨y,H1,I1,r1,q1⟩:=hz;exact zX I1 hN hi hx r1 (λs2 I2=>⟨_,H1,I2,q1⟩) hf
structure It where
 go:Nat->Hp->Prop
 yld:Nat->Hp->V->Hp->Prop
 stop:Nat->Hp->Prop
def zZ(X:Cx)(pins:List (Addr×Obj))(H:Hp)(b:Addr):Prop:=
 H b=none/\b≠X.env.locals/\b∉X.fs/\(b∈X.ex\/X.s₀.heap.objs.size<=b)/\(∀x c,X.env.cells.lookup x=some c->c≠b)/\∀p∈X.pn++pins,p.1≠b
theorem Inv.fpOk{b:Addr}(I:Inv X pins σ H s)(hb:s.heap.objs.size<=b)(hn:H' b=none):zZ X pins H' b:=by
 refine⟨hn,Sd (P6 I.lt hb),I.nofs hb,.inr (Qb I.sz hb),λx c e z=>?_,λp hp z=>?_⟩
 ·obtain⟨v,q⟩:=I.cell x c e;exact absurd (P6 q.lt (by rw[z];exact hb)) (Q8 _)
 ·exact absurd (P6 (PU (I.pin p hp).1) (by rw[z];exact hb)) (Q8 _)
structure Turn(P:Program)(w:World)(K:Py)(tg:Expr)(J:It)(fp:List Addr)(it:Addr)(tn:Nat->Heap->Prop):Prop where
 mem:it∈fp
 obj:∀i h,tn i h->∀b∈fp,∃o,h.get? b=some o/\∀v,o.data≠.cell v
 keep:∀i h h',tn i h->(∀b∈fp,∀o,h.get? b=some o->h'.get? b=some o)->tn i h'
 item:∀(X:Cx),X.prog=P->X.w=w->X.K=K->X.calm=true->∀(i:Nat)(pins:List (Addr×Obj))(s:Shared)(σ:St)(H:Hp)(E:Value->Shared->Prop),Inv X pins σ H s->(∀b∈fp,zZ X pins H b)->tn i s.heap->J.go i H->
  wpAny (model P w) X.A (pyNext (.ref it)) (λr s1=>∃u,r=some u/\
   wpAny (model P w) X.A (letOwnedTupleGo tg (.ref it) u) (λ_ s2=>∃x H',Inv X pins σ H' s2/\RelV x u/\J.yld i H x H'/\tn (i+1) s2.heap/\∀b∈fp,H' b=none) E s1) E s
 done:∀(X:Cx),X.prog=P->X.w=w->X.K=K->X.calm=true->∀(i:Nat)(pins:List (Addr×Obj))(s:Shared)(σ:St)(H:Hp)(E:Value->Shared->Prop),Inv X pins σ H s->(∀b∈fp,zZ X pins H b)->tn i s.heap->J.stop i H->
  wpAny (model P w) X.A (pyNext (.ref it)) (λr s1=>r=none/\Inv X pins σ H s1) E s
 self:∀(A:Around)(i:Nat)(s:Shared)(Q:Value->Shared->Prop)(E:Value->Shared->Prop),tn i s.heap->Q (.ref it) s->wpAny (model P w) A (pyIter (.ref it)) Q E s
abbrev TI:=St->Hp->(It->Hp->Prop)->Prop
def PIE(X:Cx)(pins:List (Addr×Obj))(σ:St)(tg:Expr)(R:It->Hp->Prop)(uq:Value)(s2:Shared):Prop:=
 ∃(it:Addr)(fp:List Addr)(tn:Nat->Heap->Prop)(J:It)(H':Hp),uq=.ref it/\Inv X pins σ H' s2/\Turn X.prog X.w X.K tg J fp it tn/\tn 0 s2.heap/\(∀b∈fp,zZ X pins H' b)/\R J H'
def PI(X:Cx)(tg iter:Expr)(wi:TI):Prop:=
 ∀(pins:List (Addr×Obj))(s:Shared)(σ:St)(H:Hp)(R:It->Hp->Prop),Inv X pins σ H s->wi σ H R->
  wpAny (model X.prog X.w) X.A (eval iter X.env) (λv s1=>wpAny (model X.prog X.w) X.A (pyIter v) (PIE X pins σ tg R) X.xe s1) X.xe s
theorem A0{o:Obj}{n:String}{vs:Array Value}{Q:Unit->Shared->Prop}(ho:s.heap.get? it=some o)(hc:o.cls=.type n)(hd:o.data=.fields vs)(hn:["enumerate","zip","dict_itemiterator","dict_reverseitemiterator","odict_iterator","itertools.zip_longest","itertools.pairwise"].contains n=false)(hQ:Q () s):wpAny M A (letOwnedTupleGo tg (.ref it) u) Q E s:=by
 unfold letOwnedTupleGo;cases tg <;> first
  |exact Px hQ
  | (cases u <;> first
    |exact Px hQ
    | (refine Pi (wpAny_load ho ?_)
       rw[hc,hd]
       show wpAny M A (if(["enumerate","zip","dict_itemiterator","dict_reverseitemiterator","odict_iterator","itertools.zip_longest","itertools.pairwise"].contains n&&vs[0]? == some (rawInt _))=true then _ else _) Q E s
       rw[if_neg (by intro h;rw[hn,Bool.false_and]at h;cases h)];exact Px hQ))
def Itl(K:Py)(a:Addr):It:=
 ⟨λi H=>∃xs x,SqL K H a xs/\xs[i]?=some x,λi H x H'=>H'=H/\∀xs,SqL K H a xs->xs[i]?=some x,λi H=>∃xs,SqL K H a xs/\xs.length<=i⟩
def Itt(K:Py)(a:Addr):It:=
 ⟨λi H=>∃xs x,SqT K H a xs/\xs[i]?=some x,λi H x H'=>H'=H/\∀xs,SqT K H a xs->xs[i]?=some x,λi H=>∃xs,SqT K H a xs/\xs.length<=i⟩
def Itr(lo:Int)(n:Nat):It:=⟨λi _=>i<n,λi H x H'=>H'=H/\x=.int (lo+i),λi _=>n<=i⟩
theorem vM(a it:Addr):Turn P w K tg (Itl K a) [it] it (λi h=>h.IsListIter it a i) where
 mem:=by simp
 obj:=λi h st b hb=>by
  have e:b=it:=by simpa using hb
  subst e;obtain⟨o,e,c,d⟩:=st;exact⟨o,e,λv z=>by rw[d]at z;cases z⟩
 keep:=λi h h' st k=>st.at λo e=>k it (by simp) o e
 item:=by
  intro X hP hw hK hc i pins s σ H E I hf st hg;subst hP hw hK;obtain⟨xs,x,hq,hx⟩:=hg;obtain⟨its,rv,p,hz⟩:=I.list hq;obtain⟨u,hu,ru⟩:=rv.get hx;obtain⟨f0,f1,f2,f3,f4,f5⟩:=hf it (by simp);refine wpAny_pyNext_list_item st p.isList (x:=u) (by simpa using hu) λh' bx sb=>?_
  have I1:Inv X pins σ H { s with heap:=h' }:=I.turned (t':=s.toks) (λb o hb e=>(sb.2 b hb).trans e) f0 f1 f3 f4 f5;obtain⟨o,e,c,d⟩:=id bx;exact⟨u,rfl,A0 (s:={ s with heap:=h' }) e c d (by decide) ⟨x,H,I1,ru,⟨rfl,λys hy=>by rw[I.list_inj hy hq];exact hx⟩,bx,λb hb=>(hf b hb).1⟩⟩
 done:=by
  intro X hP hw hK hc i pins s σ H E I hf st hg;subst hP hw hK;obtain⟨xs,hq,hx⟩:=hg;obtain⟨its,rv,p,hz⟩:=I.list hq;obtain⟨f0,f1,f2,f3,f4,f5⟩:=hf it (by simp);have hl:=rv.length;exact wpAny_pyNext_list_end (I.ok.hd hc) st p.isList (by simp;omega) λh' eb=>⟨rfl,I.turned (t':=s.toks) (λb o hb e=>eb b o hb e) f0 f1 f3 f4 f5⟩
 self:=λ_ _ _ _ _ st h=>wpAny_pyIter_listiter st h
theorem AR(a it:Addr):Turn P w K tg (Itt K a) [it] it (λi h=>h.IsTupleIter it a i) where
 mem:=by simp
 obj:=λi h st b hb=>by
  have e:b=it:=by simpa using hb
  subst e;obtain⟨o,e,c,d⟩:=st;exact⟨o,e,λv z=>by rw[d]at z;cases z⟩
 keep:=λi h h' st k=>st.at λo e=>k it (by simp) o e
 item:=by
  intro X hP hw hK hc i pins s σ H E I hf st hg;subst hP hw hK;obtain⟨xs,x,hq,hx⟩:=hg;obtain⟨its,rv,p,hz⟩:=I.tuple hq;obtain⟨u,hu,ru⟩:=rv.get hx;obtain⟨f0,f1,f2,f3,f4,f5⟩:=hf it (by simp);refine wpAny_pyNext_tuple_item st (show s.heap.IsTuple a its.toArray from p) (x:=u) (by simpa using hu) λh' bx sb=>?_
  have I1:Inv X pins σ H { s with heap:=h' }:=I.turned (t':=s.toks) (λb o hb e=>(sb.2 b hb).trans e) f0 f1 f3 f4 f5;obtain⟨o,e,c,d⟩:=id bx;exact⟨u,rfl,A0 (s:={ s with heap:=h' }) e c d (by decide) ⟨x,H,I1,ru,⟨rfl,λys hy=>by rw[I.tuple_inj hy hq];exact hx⟩,bx,λb hb=>(hf b hb).1⟩⟩
 done:=by
  intro X hP hw hK hc i pins s σ H E I hf st hg;subst hP hw hK;obtain⟨xs,hq,hx⟩:=hg;obtain⟨its,rv,p,hz⟩:=I.tuple hq;obtain⟨f0,f1,f2,f3,f4,f5⟩:=hf it (by simp);have hl:=rv.length;exact wpAny_pyNext_tuple_end (I.ok.hd hc) st (show s.heap.IsTuple a its.toArray from p) (by simp;omega) λh' eb=>⟨rfl,I.turned (t':=s.toks) (λb o hb e=>eb b o hb e) f0 f1 f3 f4 f5⟩
 self:=λ_ _ _ _ _ st h=>wpAny_pyIter_tupleiter st h
theorem AS(it:Addr)(lo:Int)(n:Nat):Turn P w K tg (Itr lo n) [it] it (λi h=>IsRangeIter h it (lo+(i:Nat)*1) ((n:Int)-(i:Nat)) 1) where
 mem:=by simp
 obj:=λi h st b hb=>by
  have e:b=it:=by simpa using hb
  subst e;exact⟨_,st,λv z=>by
   have z':Data.fields _=Data.cell v:=z;cases z'⟩
 keep:=λi h h' st k=>k it (by simp) _ st
 item:=by
  intro X hP hw hK hc i pins s σ H E I hf st hg;subst hP hw hK;obtain⟨f0,f1,f2,f3,f4,f5⟩:=hf it (by simp);have W:=Walks.range (prog:=X.prog) (w:=X.w) (I.ok.hd hc) it lo 1 n;refine W.item i s _ _ hg st λv h' tk hv bx kk=>?_;obtain⟨t,rfl⟩:=hv;have I1:Inv X pins σ H { s with heap:=h',toks:=tk }:=I.turned (λb o hb e=>kk b o (by simpa using hb) e) f0 f1 f3 f4 f5
  refine⟨_,rfl,A0 (s:={ s with heap:=h',toks:=tk }) (n:="range_iterator") bx rfl rfl (by decide) ⟨.int (lo+i),H,I1,⟨t,?_⟩,⟨rfl,rfl⟩,bx,λb hb=>(hf b hb).1⟩⟩;rw[Int.mul_one]
 done:=by
  intro X hP hw hK hc i pins s σ H E I hf st hg;subst hP hw hK;obtain⟨f0,f1,f2,f3,f4,f5⟩:=hf it (by simp);exact wpAny_pyNext_range_end (I.ok.hd hc) st (by have:n<=i:=hg;omega) λh' eb=>⟨rfl,I.turned (t':=s.toks) (λb o hb e=>eb b o hb e) f0 f1 f3 f4 f5⟩
 self:=λ_ _ _ _ _ st h=>wpAny_pyIter_rangeiter st h
variable{tk:Nat}
theorem E3{R:It->Hp->Prop}{lo hi:Int}{t u v:Tok}(I:Inv X pins σ H s)(h1:-(2 ^ 62)<=lo)(h2:lo<2 ^ 62)(h3:-(2 ^ 62)<=hi)(h4:hi<2 ^ 62)(q:R (Itr lo (hi-lo).toNat) H):wpAny (model X.prog X.w) X.A (pyIter (.ref s.heap.objs.size)) (PIE X pins σ tg R) E { s with heap:=s.heap.push { cls:=.type "range",data:=.fields #[.int lo t,.int hi u,.int 1 v] },toks:=tk }:=by
 refine wpAny_pyIter_range (IsRange.new ..) (small_one h1 h2 h3 h4) ?_;have I1:Inv X pins σ H { s with heap:=s.heap.push { cls:=.type "range",data:=.fields #[.int lo t,.int hi u,.int 1 v] },toks:=tk }:=I.kept λb o e=>PB _ e;refine⟨(s.heap.push { cls:=.type "range",data:=.fields #[.int lo t,.int hi u,.int 1 v] }).objs.size,[(s.heap.push { cls:=.type "range",data:=.fields #[.int lo t,.int hi u,.int 1 v] }).objs.size],_,_,H,rfl,
  I1.kept (t':=tk) λb o e=>PB _ e,AS _ lo (hi-lo).toNat,?_,λb hb=>?_,q⟩
 ·have e1:lo+((0:Nat):Int)*1=lo:=by simp
  have e2:(((hi-lo).toNat:Nat):Int)-((0:Nat):Int)=Builtin.Range.rangeSize lo hi 1:=by rw[rangeSize_one];split <;> omega
  show IsRangeIter _ _ (lo+((0:Nat):Int)*1) ((((hi-lo).toNat:Nat):Int)-((0:Nat):Int)) 1
  rw[e1,e2];exact PR _ rfl
 ·have e:b=(s.heap.push { cls:=.type "range",data:=.fields #[.int lo t,.int hi u,.int 1 v] }).objs.size:=by simpa using hb
  subst e;exact I1.fpOk (PD _) (I1.hok.fresh (PD _))
def NJ(wi:TI)(g:TG)(tb:TS):TS:=λD σ H=>wi σ H λJ H1=>∃W:Nat->Nat->St->Hp->Prop,(∃m,W 0 m σ H1)/\∀i m σ H,W i m σ H->
 (J.stop i H/\D.nx σ H)\/(J.go i H/\∃N:St->Hp->Prop,(∀σ' H',N σ' H'->∃m',m'<m/\W (i+1) m' σ' H')/\∀x H',J.yld i H x H'->g x σ H' λσ2 H2=>tb { D with nx:=N,ct:=N,bk:=D.nx } σ2 H2)
def sI(fp:List Addr)(h:Heap):List (Addr×Obj):=fp.filterMap λb=>(h.get? b).map λo=>(b,o)
theorem iN{fp:List Addr}{h:Heap}{b:Addr}{o:Obj}(hb:b∈fp)(e:h.get? b=some o):(b,o)∈sI fp h:=List.mem_filterMap.mpr ⟨b,hb,by rw[e];rfl⟩
theorem CD{fp:List Addr}{h:Heap}{p:Addr×Obj}(hp:p∈sI fp h):p.1∈fp/\h.get? p.1=some p.2:=by
 obtain⟨b,hb,e⟩:=List.mem_filterMap.mp hp;cases q:h.get? b with
 |none=>rw[q]at e;cases e
 |some o=>
  rw[q]at e;have e':(b,o)=p:=P4 e;subst e';exact⟨hb,q⟩
theorem Inv.pinned{fp:List Addr}(I:Inv X pins σ H s)(hf:∀b∈fp,zZ X pins H b)(ho:∀b∈fp,∃o,s.heap.get? b=some o/\∀v,o.data≠.cell v):Inv X (pins++sI fp s.heap) σ H s:=
 I.pins_of λp hp=>(Ql.mp hp).elim (λz=>I.pin p (PM _ z)) λz=>by
  obtain⟨hb,e⟩:=CD z;obtain⟨f0,f1,f2,_⟩:=hf p.1 hb;obtain⟨o,e',d⟩:=ho p.1 hb;rw[e]at e';cases e';exact⟨e,f0,f1,f2,d⟩
theorem Inv.unpinned{pl:List (Addr×Obj)}(I:Inv X (pins++pl) σ H s):Inv X pins σ H s:=I.pins_of λp hp=>I.pin p (PM _ (Qx _ hp))
variable{iter:Expr}{wi:TI}
theorem Ji{body:List Stmt}{g:TG}{tb:TS}(hp:PassesOwn (model X.prog X.w) X.A X.env X.xe)(hc:X.calm=true)(hi:PI X tg iter wi)(hg:PG X tg g)(hb:PSs X body tb)(hs:∀x,Rb iter X.env x=pure x:=by intro _;rfl):PS X (.For tg iter body [] pos) (NJ wi g tb):=by
 intro pins s σ H D I h;refine wpAny_For (thn (hi pins s σ H _ I h) λv s1 h1=>thn h1 λuq s2 h2=>?_) hs;obtain⟨it,fp,tn,J,H2,e,I2,T,o4,f2,W,⟨m0,w0⟩,turn⟩:=h2;subst e
 -- what stays true of the iterator's objects through the loop
 have kn:∀{H':Hp},(∀b∈fp,H' b=none)->∀b∈fp,zZ X pins H' b:=λhn b hb=>⟨hn b hb,(f2 b hb).2⟩;refine codeAny_forLoop_any (λn s'=>∃i σ' H',Inv X pins σ' H' s'/\tn i s'.heap/\(∀b∈fp,H' b=none)/\W i n σ' H') ?_ m0 ⟨0,σ,H2,I2,o4,λb hb=>(f2 b hb).1,w0⟩;rintro n s3 ⟨i,σ3,H3,I3,oe,fr3,w3⟩;rcases turn i n σ3 H3 w3 with⟨stop,qn⟩|⟨go,N,hN,step⟩
 ·refine wpAny_passesOwn hp (thn (T.done X rfl rfl rfl hc i pins s3 σ3 H3 X.xe I3 (kn fr3) oe stop) λr s4 ⟨hr,I4⟩=>?_);subst hr;exact wpAny_execs_nil ⟨σ3,H3,I4,qn⟩
 ·refine wpAny_passesOwn hp (thn (T.item X rfl rfl rfl hc i pins s3 σ3 H3 X.xe I3 (kn fr3) oe go) λr s4 ⟨u,hr,h4⟩=>?_);subst hr;refine wpAny_passesOwn hp (thn h4 λ_ s5 hz=>?_);obtain⟨x,H5,I5,r5,y5,lp,i9⟩:=hz;have ze:=I5.pinned (kn i9) (T.obj _ _ lp);refine wpAny_passesOwn hp (thn (hg _ s5 σ3 H5 x u _ ze r5 (step x H5 y5)) λ_ s6 ⟨σ6,H6,I6,q6⟩=>?_);refine wpAny_passesOwn hp (thn (hb _ s6 σ6 H6 _ I6 q6) λf s7 q7=>?_);have again:∀{σ7:St}{H7:Hp},Inv X (pins++sI fp s5.heap) σ7 H7 s7->N σ7 H7->∃m,m<n/\∃i σ' H',Inv X pins σ' H' s7/\tn i s7.heap/\(∀b∈fp,H' b=none)/\W i m σ' H':=λ{σ7 H7} I7 n7=>by
   obtain⟨m',hm,w7⟩:=hN σ7 H7 n7;refine⟨m',hm,i+1,σ7,H7,I7.unpinned,T.keep _ _ _ lp λb hb o e=>(I7.pin (b,o) (PM _ (PM _ (iN hb e)))).1,λb hb=>?_,w7⟩;obtain⟨o,e,d⟩:=T.obj _ _ lp b hb;exact(I7.pin (b,o) (PM _ (PM _ (iN hb e)))).2.1
  cases f with
  |next=>obtain⟨σ7,H7,I7,n7⟩:=q7;exact again I7 n7
  |cont=>obtain⟨σ7,H7,I7,n7⟩:=q7;exact again I7 n7
  |brk=>obtain⟨σ7,H7,I7,q7⟩:=q7;exact⟨σ7,H7,I7.unpinned,q7⟩
  |ret v=>obtain⟨x7,σ7,H7,I7,r7,q7⟩:=q7;exact⟨x7,σ7,H7,I7.unpinned,r7,q7⟩
abbrev R2:=V->V->Hp->VK->Prop
def OpR(X:Cx)(f:Value->Value->Sem Value)(r:R2):Prop:=
 ∀(pins:List (Addr×Obj))(s:Shared)(σ:St)(H:Hp)(x y:V)(v u:Value)(Q:VK),Inv X pins σ H s->RelV x v->RelV y u->r x y H Q->
  wpAny (model X.prog X.w) X.A (f v u) (EP X pins σ Q) X.xe s
def UnR(X:Cx)(f:Value->Sem Value)(r:V->Hp->VK->Prop):Prop:=
 ∀(pins:List (Addr×Obj))(s:Shared)(σ:St)(H:Hp)(x:V)(v:Value)(Q:VK),Inv X pins σ H s->RelV x v->r x H Q->
  wpAny (model X.prog X.w) X.A (f v) (EP X pins σ Q) X.xe s
def bS(X:Cx)(f:Value)(r:List V->Hp->VK->Prop):Prop:=
 ∀(pins:List (Addr×Obj))(s:Shared)(σ:St)(H:Hp)(xs:List V)(us:List Value)(Q:VK),Inv X pins σ H s->aI xs us->r xs H Q->
  wpAny (model X.prog X.w) X.A (call f us) (EP X pins σ Q) X.xe s
def NK(X:Cx)(r:V->Hp->(Bool->Hp->Prop)->Prop):Prop:=
 ∀(pins:List (Addr×Obj))(s:Shared)(σ:St)(H:Hp)(x:V)(v:Value)(Q:Bool->Hp->Prop),Inv X pins σ H s->RelV x v->r x H Q->
  wpAny (model X.prog X.w) X.A (truthy v) (TP X pins σ Q) X.xe s
def tOp(r:R2)(ta tb:TE):TE:=λσ H Q=>ta σ H λx H1=>tb σ H1 λy H2=>r x y H2 Q
def tUn(r:V->Hp->VK->Prop)(ta:TE):TE:=λσ H Q=>ta σ H λx H1=>r x H1 Q
def rI(C:Int->Int->Prop)(g:Int->Int->V):R2:=λx y H Q=>∃i j,x=.int i/\y=.int j/\C i j/\Q (g i j) H
def rI0(g:Int->Int->V):R2:=λx y H Q=>∃i j,x=.int i/\y=.int j/\Q (g i j) H
def rU(g:Int->V):V->Hp->VK->Prop:=λx H Q=>∃i,x=.int i/\Q (g i) H
variable{f:Value->Value->Sem Value}{g:Int->Int->Int}
section
variable{a b c:Expr}{tb tc:TE}
theorem Jj(ha:PE X a ta)(hb:PE X b tb){R:V->V->Hp->Prop}(I:Inv X pins σ H s)(h:ta σ H λx H1=>tb σ H1 λy H2=>R x y H2)(hf:∀v u s2 x y H2,Inv X pins σ H2 s2->RelV x v->RelV y u->R x y H2->wpAny (model X.prog X.w) X.A (f v u) Q X.xe s2):
  wpAny (model X.prog X.w) X.A (eval a X.env) (λv s₁=>wpAny (model X.prog X.w) X.A (eval b X.env) (λu s₂=>wpAny (model X.prog X.w) X.A (f v u) Q X.xe s₂) X.xe s₁) X.xe s:=by
 refine thn (ha pins s σ H _ I h) λv s1 hz=>?_;obtain⟨x,H1,I1,r1,q1⟩:=hz;refine thn (hb pins s1 σ H1 _ I1 q1) λu s2 hz=>?_;obtain⟨y,H2,I2,r2,q2⟩:=hz;exact hf v u s2 x y H2 I2 r1 r2 q2
theorem Lh{op:Operator}{r:R2}(ho:OpR X (QW op) r)(ha:PE X a ta)(hb:PE X b tb):PE X (.BinOp a op b pos) (tOp r ta tb):=by
 intro pins s σ H Q I h;exact wpAny_BinOp (Jj ha hb I h λv u s2 x y H2 I2 rx ry q=>ho pins s2 σ H2 x y v u Q I2 rx ry q)
theorem Li{op:UnaryOp}{r:V->Hp->VK->Prop}(ho:UnR X (unaryOp op) r)(ha:PE X a ta):PE X (.UnaryOp op a pos) (tUn r ta):=by
 intro pins s σ H Q I h;exact UnaryOp_ (thn (ha pins s σ H _ I h) λv s1 ⟨x,H1,I1,r1,q1⟩=>ho pins s1 σ H1 x v Q I1 r1 q1)
theorem opI{C:Int->Int->Prop}(rule:∀(i j:Int)(t u:Tok)(s:Shared)(Q:Value->Shared->Prop)(E:Value->Shared->Prop),C i j->Q (.int (g i j) s.toks) { s with toks:=s.toks+1 }->wpAny (model X.prog X.w) X.A (f (.int i t) (.int j u)) Q E s):
  OpR X f (rI C λi j=>.int (g i j)):=by
 intro pins s σ H x y v u Q I rx ry h;obtain⟨i,j,rfl,rfl,hc,q⟩:=h;obtain⟨t,rfl⟩:=rx;obtain⟨t',rfl⟩:=ry;exact rule i j t t' s _ _ hc ⟨.int (g i j),H,I.tok _,⟨_,rfl⟩,q⟩
theorem Lj(rule:∀(i j:Int)(t u:Tok)(s:Shared)(Q:Value->Shared->Prop)(E:Value->Shared->Prop),Q (.int (g i j) s.toks) { s with toks:=s.toks+1 }->wpAny (model X.prog X.w) X.A (f (.int i t) (.int j u)) Q E s):
  OpR X f (rI0 λi j=>.int (g i j)):=by
 intro pins s σ H x y v u Q I rx ry h;obtain⟨i,j,rfl,rfl,q⟩:=h;obtain⟨t,rfl⟩:=rx;obtain⟨t',rfl⟩:=ry;exact rule i j t t' s _ _ ⟨.int (g i j),H,I.tok _,⟨_,rfl⟩,q⟩
theorem Jk{g:Int->Int->Bool}(rule:∀(i j:Int)(t u:Tok)(s:Shared)(Q:Value->Shared->Prop)(E:Value->Shared->Prop),Q (.bool (g i j)) s->wpAny (model X.prog X.w) X.A (f (.int i t) (.int j u)) Q E s):
  OpR X f (rI0 λi j=>.bl (g i j)):=by
 intro pins s σ H x y v u Q I rx ry h;obtain⟨i,j,rfl,rfl,q⟩:=h;obtain⟨t,rfl⟩:=rx;obtain⟨t',rfl⟩:=ry;exact rule i j t t' s _ _ ⟨.bl (g i j),H,I,rfl,q⟩
def E4(i j:Int):Prop:=0<j/\j<1073741824
def CF(i j:Int):Prop:=0<=j/\j<=1000000/\i.natAbs<2 ^ 64
def A2(i j:Int):Prop:=(-(2 ^ 64)<i/\i<2 ^ 64)\/(-(2 ^ 64)<j/\j<2 ^ 64)
theorem A2.ok{i j:Int}(h:A2 i j):IntMulOk i j:=by
 rcases h with⟨h1,h2⟩|⟨h1,h2⟩
 ·exact .of_left (intBits_le_64 h1 h2)
 ·exact .of_right (intBits_le_64 h1 h2)
theorem Jl:OpR X (QW .Add) (rI0 λi j=>.int (i+j)):=Lj λ_ _ _ _ _ _ _ q=>add_int q
theorem Jm:OpR X (QW .Sub) (rI0 λi j=>.int (i-j)):=Lj λ_ _ _ _ _ _ _ q=>sub_int q
theorem Jn:OpR X (QW .Mult) (rI A2 λi j=>.int (i*j)):=opI λ_ _ _ _ _ _ _ hc q=>mul_int q hc.ok
theorem GD:OpR X (QW .FloorDiv) (rI E4 λi j=>.int (i/j)):=opI λi j _ _ _ _ _ hc q=>by
 have h1:(0:Int)<j:=hc.1;have h2:j<1073741824:=hc.2;exact floordiv_int (by omega) (by rw[Int.fdiv_eq_ediv_of_nonneg i (by omega)];exact q) (.inl (PyProof.noPylong_small (by omega)))
theorem Jo:OpR X (QW .Mod) (rI (λ_ j=>0<j) λi j=>.int (i%j)):=opI λi j _ _ _ _ _ hc q=>by
 have h1:(0:Int)<j:=hc;exact mod_int' (by omega) (by rw[Int.fmod_eq_emod_of_nonneg i (by omega)];exact q)
theorem Jp:OpR X (QW .Pow) (rI CF λi j=>.int (i ^ j.toNat)):=opI λ_ _ _ _ _ _ _ hc q=>pow_int_small hc.1 hc.2.1 hc.2.2 q
theorem unI{f:Value->Sem Value}{g:Int->Int}
  (rule:∀(i:Int)(t:Tok)(s:Shared)(Q:Value->Shared->Prop)(E:Value->Shared->Prop),Q (.int (g i) s.toks) { s with toks:=s.toks+1 }->wpAny (model X.prog X.w) X.A (f (.int i t)) Q E s):
  UnR X f (rU λi=>.int (g i)):=by
 intro pins s σ H x v Q I rx h;obtain⟨i,rfl,q⟩:=h;obtain⟨t,rfl⟩:=rx;exact rule i t s _ _ ⟨.int (g i),H,I.tok _,⟨_,rfl⟩,q⟩
theorem Jq:UnR X (unaryOp .USub) (rU λi=>.int (-i)):=unI λ_ _ _ _ _ q=>neg_int q
end
variable{op:CmpOp}{its:List Value}
section
variable{a b c:Expr}{tb tc:TE}
theorem xR{Q:VK}{k k':Bool}(I:Inv X pins σ H s)(q:Q (.bl k) H)(e:k=k'):EP X pins σ Q (.bool k') s:=by
 subst e;exact⟨.bl k,H,I,rfl,q⟩
theorem Lk:OpR X (Qn .Lt) (rI0 λi j=>.bl (decide (i<j))):=Jk λ_ _ _ _ _ _ _ q=>lt_int q
theorem Ll:OpR X (Qn .LtE) (rI0 λi j=>.bl (decide (i<=j))):=Jk λ_ _ _ _ _ _ _ q=>le_int q
theorem Lm:OpR X (Qn .Gt) (rI0 λi j=>.bl (decide (j<i))):=Jk λ_ _ _ _ _ _ _ q=>gt_int q
theorem CG:OpR X (Qn .Lt) (λx y H Q=>∃i j,x=.str i/\y=.str j/\Q (.bl (decide (i.cps.toList<j.cps.toList))) H):=by
 intro pins s σ H x y v u Q I rx ry h;obtain⟨i,j,rfl,rfl,q⟩:=h;obtain⟨t,rfl⟩:=rx;obtain⟨t',rfl⟩:=ry;exact lt_str (xR I q rfl)
theorem GE:OpR X (Qn .IsNot) (λx y H Q=>y=.non/\Q (.bl (!decide (x=.non))) H):=by
 intro pins s σ H x y v u Q I rx ry h;obtain⟨rfl,q⟩:=h;cases ry
 refine isnot_none_gen (xR I q ?_);cases x <;> first
  |(cases rx;rfl)
  |(obtain⟨t,rfl⟩:=rx;rfl)
theorem OpR.or{r r':R2}(h:OpR X f r)(h':OpR X f r'):OpR X f (λx y H Q=>r x y H Q\/r' x y H Q):=by
 intro pins s σ H x y v u Q I rx ry q;rcases q with q|q
 ·exact h pins s σ H x y v u Q I rx ry q
 ·exact h' pins s σ H x y v u Q I rx ry q
theorem E5(b:Expr)(h:op≠.In:=by decide)(h2:op≠.NotIn:=by decide):behindInMarks op b=false:=by
 have e1:(op == CmpOp.In)=false:=by cases op <;> first|rfl|exact absurd rfl h
 have e2:(op == CmpOp.NotIn)=false:=by cases op <;> first|rfl|exact absurd rfl h2
 cases b <;> simp[behindInMarks,e1,e2]
theorem GF{r:R2}(ho:OpR X (Qn op) r)(ha:PE X a ta)(hb:PE X b tb)(hm:behindInMarks op b=false):PE X (.Compare a [op] [b] pos) (tOp r ta tb):=by
 intro pins s σ H Q I h;exact wpAny_Compare1 (Jj ha hb I h λv u s2 x y H2 I2 rx ry q=>ho pins s2 σ H2 x y v u Q I2 rx ry q) hm
def GG(K:Py)(x:V)(H:Hp)(k:Bool):Prop:=
 match x with
 |.non=>k=false
 |.bl b=>k=b
 |.int i=>k=(i != 0)
 |.str y=>y.length<=PP/\k=((y.length:Int) != 0)
 |.byt y=>y.size<=PP/\k=((y.size:Int) != 0)
 |.ref p=>(∃xs,SqL K H p xs/\k=!xs.isEmpty)\/(∃xs,SqT K H p xs/\k=!xs.isEmpty)\/∃kvs,H p=some (.dK kvs)/\k=!kvs.isEmpty
 |_=>False
theorem AU{κ:Type}{kvs:List (κ×V)}{vs:List (κ×Value)}(r:KV kvs vs):(!vs.isEmpty)=!kvs.isEmpty:=by
 cases r <;> rfl
theorem sJ{xs:List V}(r:aI xs its):(!its.toArray.isEmpty)=!xs.isEmpty:=by
 cases r <;> simp
theorem mB:(PP:Nat)<2 ^ 63:=by rw[Qt];decide
theorem E6:NK X (λx H Q=>∃k,GG X.K x H k/\Q k H):=by
 intro pins s σ H x v Q I rx h;obtain⟨k,e,q⟩:=h;have hl:=mB;have hs:PP=16777216:=Qt;cases x with
 |non=>
  cases rx
  have e':k=false:=e;subst e';exact truthy_none ⟨H,I,q⟩
 |bl b=>
  cases rx
  have e':k=b:=e;subst e';exact wpAny_truthy_bool ⟨H,I,q⟩
 |int i=>
  obtain⟨t,rfl⟩:=rx;have e':k=(i != 0):=e;subst e';exact PySem.P.truthy_int ⟨H,I,q⟩
 |str y=>
  obtain⟨t,rfl⟩:=rx;obtain⟨hy,e'⟩:y.length<=PP/\k=((y.length:Int) != 0):=e;subst e';exact PySem.P.truthy_str (by omega) ⟨H,I.tok _,q⟩
 |byt y=>
  obtain⟨t,rfl⟩:=rx;obtain⟨hy,e'⟩:y.size<=PP/\k=((y.size:Int) != 0):=e;subst e';exact PySem.W.truthy_bytes (by omega) ⟨H,I.tok _,q⟩
 |ref p=>
  cases rx
  have e':(∃xs,SqL X.K H p xs/\k=!xs.isEmpty)\/(∃xs,SqT X.K H p xs/\k=!xs.isEmpty)\/∃kvs,H p=some (.dK kvs)/\k=!kvs.isEmpty:=e;rcases e' with⟨xs,hx,e'⟩|⟨xs,hx,e'⟩|⟨kvs,hx,e'⟩
  ·subst e';obtain⟨its,r,pl,hz⟩:=I.list hx;have hlen:=r.length;exact wpAny_truthy_list pl.isList (by simp only[PJ];omega) ⟨H,I.tok _,by rw[sJ r];exact q⟩
  ·subst e';obtain⟨its,r,pl,hz⟩:=I.tuple hx;have hlen:=r.length;exact truthy_tuple pl (by simp only[PJ];omega) ⟨H,I.tok _,by rw[sJ r];exact q⟩
  ·subst e';obtain⟨hz,hS,vs,r,m⟩:kvs.length<=PP/\(p == QG)=false/\∃vs,KV kvs vs/\s.heap.DictOf (aQ X.prog X.w) p vs:=I.hok p _ hx;have hlen:kvs.length=vs.length:=Qz r;exact wpAny_truthy_dict hS m (by omega) ⟨H,I.tok _,by rw[AU r];exact q⟩
 |_=>exact(show False from e).elim
theorem E7(ha:PE X a ta)(he:∀whole,isTrue a X.env whole=(do let v <-whole;standAt a.pos;holding [v] (truthy v))):
  PT X a (λσ H Q=>ta σ H λx H'=>∃k,GG X.K x H' k/\Q k H'):=by
 intro pins s σ H Q I h
 exact isTrue_plain (thn (ha pins s σ H _ I h) λv s1 ⟨x,H1,I1,r1,q1⟩=>E6 pins s1 σ H1 x v Q I1 r1 q1) (he _)
theorem AV:OpR X (QW .Add) (λx y H Q=>∃i j,x=.str i/\y=.str j/\i.length+j.length<=PP/\Q (.str (i++j)) H):=by
 intro pins s σ H x y v u Q I rx ry h;obtain⟨i,j,rfl,rfl,hz,q⟩:=h;obtain⟨t,rfl⟩:=rx;obtain⟨t',rfl⟩:=ry;exact add_str (λt' tk=>⟨.str (i++j),H,I.tok _,⟨_,rfl⟩,q⟩) hz
theorem vals1{x:V}(r:aI [x] us):∃u,us=[u]/\RelV x u:=by
 cases r with
 |cons r1 r2=>cases r2;exact⟨_,rfl,r1⟩
theorem vals2{x:V}(r:aI [x,y] us):∃u w',us=[u,w']/\RelV x u/\RelV y w':=by
 cases r with
 |cons r1 r2=>
  cases r2 with
  |cons r3 r4=>cases r4;exact⟨_,_,rfl,r1,r3⟩
theorem CH(hc:X.calm=true):bS X (.builtin "max") (λxs H Q=>∃i j,xs=[.int i,.int j]/\Q (.int (if j>i then j else i)) H):=by
 intro pins s σ H xs us Q I r h;obtain⟨i,j,rfl,q⟩:=h;obtain⟨u,w',rfl,⟨t,rfl⟩,⟨t',rfl⟩⟩:=vals2 r;refine max_two_ints (I.ok.hd hc) λh' tk k=>⟨_,H,I.kept k,?_,q⟩
 by_cases hj:j>i
 ·rw[if_pos hj,if_pos hj];exact⟨_,rfl⟩
 ·rw[if_neg hj,if_neg hj];exact⟨_,rfl⟩
def NL(K:Py)(x:V)(H:Hp)(n:Nat):Prop:=
 match x with
 |.str y=>y.length<=PP/\n=y.length
 |.byt y=>y.size<=PP/\n=y.size
 |.ref p=>(∃xs,SqL K H p xs/\n=xs.length)\/∃xs,SqT K H p xs/\n=xs.length
 |_=>False
theorem E8:bS X (.builtin "len") (λxs H Q=>∃x n,xs=[x]/\NL X.K x H n/\Q (.int n) H):=by
 intro pins s σ H xs us Q I r h;obtain⟨x,n,rfl,e,q⟩:=h;obtain⟨u,rfl,rx⟩:=vals1 r;have hl:=mB;have hs:PP=16777216:=Qt;cases x with
 |str y=>
  obtain⟨t,rfl⟩:=rx;obtain⟨hy,e'⟩:y.length<=PP/\n=y.length:=e;subst e';exact len_str (by omega) ⟨.int _,H,I.tok _,⟨_,rfl⟩,q⟩
 |byt y=>
  obtain⟨t,rfl⟩:=rx;obtain⟨hy,e'⟩:y.size<=PP/\n=y.size:=e;subst e';exact PySem.W.len_bytes (by omega) ⟨.int _,H,I.tok _,⟨_,rfl⟩,q⟩
 |ref p=>
  cases rx
  have e':(∃xs,SqL X.K H p xs/\n=xs.length)\/∃xs,SqT X.K H p xs/\n=xs.length:=e;rcases e' with⟨xs,hx,e'⟩|⟨xs,hx,e'⟩
  ·subst e';obtain⟨its,r',pl,hz⟩:=I.list hx;have hlen:=r'.length;exact Calls.call_len_list pl.isList (by simp only[PJ];omega) ⟨.int xs.length,H,I.tok _,⟨_,by simp only[PJ];rw[hlen]⟩,q⟩
  ·subst e';obtain⟨its,r',pl,hz⟩:=I.tuple hx;have hlen:=r'.length;exact len_tuple pl (by simp only[PJ];omega) ⟨.int xs.length,H,I.tok _,⟨_,by simp only[PJ];rw[hlen]⟩,q⟩
 |_=>exact(show False from e).elim
end
structure AW(h:Heap)(x dx C:Addr)(mA:Str->Option Value):Prop where
 obj:h.get? x=some (RN C dx)
 ns:h.Ns1 dx mA
 ne:dx≠x
variable{dx:Addr}{mA:Str->Option Value}
set_option tactic.hygienic true in
theorem CI{h:Heap}(n:h.Ns1 dx mA):∃od,h.get? dx=some od/\∀name,PySem.W.lookIn name od=some (mA name):=by
 obtain⟨o,es,ep,ho,hd,hk,_,hm⟩:=n;refine⟨o,ho,λname=>?_⟩;have e:=hm name;unfold nsFind findBy at e;rw[<-Array.find?_toList]at e;unfold PySem.W.lookIn;rw[hd];dsimp only;split
 ·rename_i y q;rw[q]at e;exact congrArg some e
 ·rename_i q;rw[q]at e;have a:es.toList.any (·.refKey)=false:=by
   rw[List.any_eq_false];intro y hy;obtain⟨z,t,ai⟩:=hk y (Array.mem_toList_iff.mp hy);simp[DictEntry.refKey,ai]
  have a':¬ es.toList.any (·.refKey)=true:=by rw[a];exact PY
  rw[if_neg a'];exact congrArg some e
theorem AW.look{h:Heap}{x C:Addr}(I:AW h x dx C mA):∃od,PySem.W.InstAt h x (RN C dx) C (some od)/\∀name,PySem.W.lookIn name od=some (mA name):=
 let ⟨od,ho,hl⟩:=CI I.ns
 ⟨od,⟨I.obj,rfl,rfl,ho⟩,hl⟩
variable{expr:Bool}{name:Str}{prog:Program}{R:Result->Shared->Prop}{kw:List (Str×Value)}
section
variable{x C f:Addr}{v:Value}
theorem get_map(X:K.In s.heap)(I:AW s.heap x dx C mA)(hg:SY K C name=true)(hh:PySem.W.hasDictIn K C=true)(ha:QE K (.ref C) name=some none)(hv:mA name=some v)(r8:PySem.W.handedIn v=true)(h:Q v { s with toks:=s.toks+1 }):
  wpAny (model prog w) A (getAttr (.ref x) name expr) Q E s:=by
 obtain⟨od,J,hl⟩:=I.look;exact PySem.W.get_value X J (PySem.W.plainGet_of hg).1 (PySem.W.findObj_own hh ha rfl (by rw[hl,hv])) r8 h
theorem E9{pl:Sem Bool}{Q:Value×List Value->Shared->Prop}(X:K.In s.heap)(I:AW s.heap x dx C mA)(hg:SY K C name=true)
  (hf:QE K (.ref C) name=some (some (.ref f))) (ht:PySem.W.isFn K (.ref f)=true) (hv:mA name=none) (h:Q (.ref f,[.ref x]) s):
  wpAny (model prog w) A (getMethod (.ref x) name pl) Q E s:=by
 obtain⟨od,J,hl⟩:=I.look;exact PySem.W.method_fn X J (PySem.W.plainGet_of hg).1 (PySem.W.plainGet_of hg).2 hf (beq_iff_eq.mp ht) (by show(PySem.W.lookIn name od).map (·.isSome)=some false;rw[hl,hv];rfl) h
theorem GH{ns:List Str}{Q:Unit->Shared->Prop}(X:K.In s.heap)(I:AW s.heap x dx C mA)
  (hs:QE K (.ref C) "__setattr__" = some (some (.builtin "object.__setattr__"))) (hp:PySem.W.plainOver K C=true) (ht:PySem.W.takerIn K C name=some none) (hh:PySem.W.hasDictIn K C=true)
  (hw:PySem.Within mA ns) (hsz:ns.length<=PP)
  (h:∀h',AW h' x dx C (λy=>if y=name then some v else mA y)->Ra dx s.heap h'->Q () { s with heap:=h',toks:=s.toks+2 }):
  wpAny (model prog w) A (setAttr (.ref x) name v) Q E s:=by
 obtain⟨od,J,hl⟩:=I.look;refine PySem.W.set_plain X J hs (PySem.W.osa_open (s:={ s with toks:=s.toks+1 }) (r:=none) X J hp ht λb=>?_);obtain⟨cd,hc,cg⟩:=PySem.W.any_some hh;have hx:s.heap.get? x=some ⟨.ref C,some dx,.plain,#[]⟩:=I.obj;refine Pi (Px (Pi (Pi (wpAny_loadPart hx (Pi (PySem.W.Looks.here (s:={ s with toks:=s.toks+1 }) (PySem.W.looks_clsIn X hc) ?_))))));rw[cg];refine Px (a:=some dx) (Pi (Px (Pi ?_)));refine wpAny_nsSet1 (s:={ s with toks:=s.toks+1 }) I.ns λh' o5 xo=>?_;obtain⟨oD,esD,epD,OX,yq,zl⟩:=o5.count (PySem.Within.cons name v hw);refine Pi (wpAny_lookBehind OX (by rw[yq];exact pastItsLine_dict (Qb zl (by rw[QY];omega))) ?_);exact Px (h _ ⟨(xo.2 _ (QS I.ne)).trans I.obj,o5,I.ne⟩ xo)
theorem Ea{vs:List Value}(X:K.In s.heap)(hm:PySem.W.makesIn K C=true)(hi:QE K (.ref C) "__init__" = some (some (.ref f)))(hf:PySem.W.typeIn K (.ref f)=some (.type "function"))(h:codeAny (model prog w) (A.under (.builtin "type.__call__" ⟨.ref C::vs,kw⟩)) (.call (.ref f) ⟨.ref (s.heap.objs.size+1)::vs,kw⟩) (PySem.W.InitBack (s.heap.objs.size+1) R)
   { s with heap:=(s.heap.push Rc).push (RN C s.heap.objs.size) }):
  codeAny (model prog w) A (.call (.ref C) ⟨vs,kw⟩) R s:=by
 obtain⟨hh,g,d,t,os⟩:=s;exact PySem.W.make_core (PySem.W.makes_of X hm) (PySem.W.looks_findIn X hi) (λself=>PySem.W.bind_fn X self hf) (.inl rfl) h
end
def hZ(f:Str)(v:V):List (Str×V)->List (Str×V)
 |[]=>[(f,v)]
 |(g,x)::r=>if g=f then(g,v)::r else(g,x)::hZ f v r
theorem qX(f g:Str)(v:V):∀fs:List (Str×V),(hZ f v fs).lookup g=if g=f then some v else fs.lookup g
 |[]=>by
  show S4 g [(f,v)]=_
  by_cases h:g=f
  ·have hb:(g == f)=true:=beq_iff_eq.mpr h;simp only[S4,hb,if_pos h]
  ·have hb:(g == f)=false:=beq_eq_false_iff_ne.mpr h;simp only[S4,hb,if_neg h]
 |(k,x)::r=>by
  have ih:=qX f g v r;rw[show hZ f v ((k,x)::r)=(if k=f then(k,v)::r else(k,x)::hZ f v r) from rfl]
  by_cases hk:k=f
  ·rw[if_pos hk]
   by_cases h:g=k
   ·have hb:(g == k)=true:=beq_iff_eq.mpr h;simp only[S4,hb,if_pos (h.trans hk)]
   ·have hb:(g == k)=false:=beq_eq_false_iff_ne.mpr h;simp only[S4,hb,if_neg (λe:g=f=>h (e.trans hk.symm))]
  ·rw[if_neg hk]
   by_cases h:g=k
   ·have hb:(g == k)=true:=beq_iff_eq.mpr h;simp only[S4,hb,if_neg (λe:g=f=>hk (h.symm.trans e))]
   ·have hb:(g == k)=false:=beq_eq_false_iff_ne.mpr h;simp only[S4,hb];exact ih
theorem pM(f:Str)(v:V):∀fs:List (Str×V),f∈(hZ f v fs).map (·.1)/\∀g,g∈fs.map (·.1)->g∈(hZ f v fs).map (·.1)
 |[]=>⟨by simp[hZ],λg h=>by simp at h⟩
 |(k,x)::r=>by
  obtain⟨i1,i2⟩:=pM f v r;rw[show hZ f v ((k,x)::r)=(if k=f then(k,v)::r else(k,x)::hZ f v r) from rfl]
  by_cases hk:k=f
  ·rw[if_pos hk];subst hk;exact⟨by simp,λg h=>by simpa using h⟩
  ·rw[if_neg hk];refine⟨?_,λg h=>?_⟩
   ·rw[P0];exact PK _ i1
   ·rw[P0]at h⊢;rcases P5.mp h with e|e
    ·exact P5.mpr (.inl e)
    ·exact PK _ (i2 g e)
theorem qY(f:Str)(v:V):∀fs:List (Str×V),(hZ f v fs).length<=fs.length+1
 |[]=>by simp[hZ]
 |(k,x)::r=>by
  have ih:=qY f v r;rw[show hZ f v ((k,x)::r)=(if k=f then(k,v)::r else(k,x)::hZ f v r) from rfl]
  by_cases hk:k=f
  ·rw[if_pos hk,QY,QY];omega
  ·rw[if_neg hk,QY,QY];omega
theorem jT.some_of{o:Option Value}(r:jT (some v) o):∃u,o=some u/\RelV v u:=by
 cases o with
 |none=>exact(show False from r).elim
 |some u=>exact⟨u,rfl,r⟩
theorem jT.none_of{o:Option Value}(r:jT none o):o=none:=by
 cases o with
 |none=>rfl
 |some u=>exact(show False from r).elim
theorem CJ(r:RelV v u):PySem.W.handedIn u=true:=by
 cases v with
 |non=>cases(show u=P7 from r);rfl
 |bl b=>cases(show u=Value.bool b from r);rfl
 |int i=>obtain⟨t,e⟩:=(show ∃t,u=Value.int i t from r);cases e;rfl
 |str x=>obtain⟨t,e⟩:=(show ∃t,u=Value.str x t from r);cases e;rfl
 |byt b=>obtain⟨t,e⟩:=(show ∃t,u=Value.bytes b t from r);cases e;rfl
 |flt b=>obtain⟨t,e⟩:=(show ∃t,u=Value.float b t from r);cases e;rfl
 |ref a=>cases(show u=Qk a from r);rfl
 |ty n=>cases(show u=Td n from r);rfl
section
variable{h:Heap}{C:Addr}{fs ku:List (Str×V)}
theorem rX(hok:HOk P w H h)(e:H a=some (.ins C dx fs)):∃mA,AW h a dx C mA/\(∀f,jT (fs.lookup f) (mA f))/\PySem.Within mA (fs.map (·.1))/\fs.length<=1000/\H dx=some (.own a):=by
 obtain⟨d,z,ne,ob,mA,n,r,q⟩:=(show bC P w H h a (.ins C dx fs) from hok a _ e)
 exact⟨mA,⟨ob,n,ne⟩,r,q,z,d⟩
end
structure Cls(K:Py)(C:Addr):Prop where
 pg:SY K C Str.empty=true
 hd:PySem.W.hasDictIn K C=true
 po:PySem.W.plainOver K C=true
 sa:QE K (.ref C) "__setattr__" = some (some (.builtin "object.__setattr__"))
theorem Cls.get{C:Addr}(c:Cls K C)(f:Str):SY K C f=true:=c.pg
def iA(K:Py)(C:Addr)(f:Str):Prop:=QE K (.ref C) f=some none
theorem iA.taker{C:Addr}{f:Str}(n:iA K C f):PySem.W.takerIn K C f=some none:=by
 unfold PySem.W.takerIn;rw[show QE K (.ref C) f=some none from n]
 rfl
structure CK(K:Py)(C:Addr)(m:Str)(f:Addr):Prop where
 at_:QE K (.ref C) m=some (some (.ref f))
 fn:PySem.W.isFn K (.ref f)=true
 kp:Rr K (.ref f)=true
variable{b:Bool}{env:Env}
section
variable{C:Addr}{fs:List (Str×V)}{f:Str}
theorem sL(I:Inv X pins σ H s)(e:H a=some (.ins C dx fs))(c:Cls X.K C)(n:iA X.K C f)(l:fs.lookup f=some v)(h:∀u s',Inv X pins σ H s'->RelV v u->Q u s'):wpAny (model X.prog X.w) A (getAttr (.ref a) f b) Q E s:=by
 obtain⟨mA,O,r,_,_,_⟩:=rX I.hok e;obtain⟨u,hu,ru⟩:=jT.some_of (v:=v) (o:=mA f) (by rw[<-l];exact r f);exact get_map I.kIn O (c.get f) c.hd n hu (CJ ru) (h u _ (I.tok _) ru)
theorem AX{m:Str}{g:Addr}{pl:Sem Bool}{Q:Value×List Value->Shared->Prop}(I:Inv X pins σ H s)(e:H a=some (.ins C dx fs))(c:Cls X.K C)(k:CK X.K C m g)(l:fs.lookup m=none)
  (h:Q (.ref g,[.ref a]) s):wpAny (model X.prog X.w) A (getMethod (.ref a) m pl) Q E s:=by
 obtain⟨mA,O,r,_,_,_⟩:=rX I.hok e;have hn:mA m=none:=jT.none_of (by rw[<-l];exact r m);exact E9 I.kIn O (c.get m) k.at_ k.fn hn h
theorem sM{Q:Unit->Shared->Prop}(I:Inv X pins σ H s)(e:H a=some (.ins C dx fs))(c:Cls X.K C)(n:iA X.K C f)(hl:fs.length<1000)(ry:RelV y u)(h:∀s',Inv X pins σ (upd H a (.ins C dx (hZ f y fs))) s'->Q () s'):wpAny (model X.prog X.w) A (setAttr (.ref a) f u) Q E s:=by
 obtain⟨mA,O,r,wi,_,ho⟩:=rX I.hok e;have hz:(fs.map (·.1)).length<=PP:=by rw[PC,Qt];omega
 refine GH I.kIn O c.sa c.po n.taker c.hd wi hz λh' O' sb=>h _ ?_;have hd:∃o,h'.get? dx=some o:=let ⟨o,_,_,e',_⟩:=O'.ns;⟨o,e'⟩;refine I.write (x:=a) (e:=dx) (by rw[e];exact Re) (.inr ho) (λb q hb z=>(sb.2 b hb).trans z) hd ?_;refine⟨by rw[aH O.ne];exact ho,?_,O.ne,O'.obj,_,O'.ns,λg=>?_,λg hg=>?_⟩
 ·have:=qY f y fs;omega
 ·show jT ((hZ f y fs).lookup g) (if g=f then some u else mA g)
  rw[qX]
  by_cases q:g=f
  ·rw[if_pos q,if_pos q];exact ry
  ·rw[if_neg q,if_neg q];exact r g
 ·by_cases q:g=f
  ·rw[q];exact(pM f y fs).1
  ·refine(pM f y fs).2 g (wi g λz=>hg ?_)
   show(if g=f then some u else mA g)=none
   rw[if_neg q];exact z
theorem Inv.made(I:Inv X pins σ H s):Inv X pins σ (upd (upd H s.heap.objs.size (.own (s.heap.objs.size+1))) (s.heap.objs.size+1) (.ins C s.heap.objs.size []))
  { s with heap:=(s.heap.push Rc).push (RN C s.heap.objs.size) }:=by
 have e1:(s.heap.push Rc).get? s.heap.objs.size=some Rc:=PR s.heap rfl;have e2:((s.heap.push Rc).push (RN C s.heap.objs.size)).get? (s.heap.objs.size+1)=some (RN C s.heap.objs.size):=by
  have:=PR (s.heap.push Rc) (o:=RN C s.heap.objs.size) rfl
  rwa[Sl]at this
 have e3:(s.heap.push Rc).Ns s.heap.objs.size (λ_=>none):=⟨Rc,#[],_,e1,rfl,(λe he=>absurd he (by simp)),λ_=>rfl⟩;have I1:=I.laid (a:=s.heap.objs.size) (o:=.own (s.heap.objs.size+1)) (h':=s.heap.push Rc) (t':=s.toks) (λb u q=>PB _ q) (PD _) ⟨_,e1⟩;refine I1.laid (a:=s.heap.objs.size+1) (o:=.ins C s.heap.objs.size []) (t':=s.toks) (λb u q=>PB _ q) (Nat.le_of_eq (Sl _ _)) ?_;have ne:s.heap.objs.size≠s.heap.objs.size+1:=P9 (Nat.lt_succ_self _);refine⟨by rw[aH ne,aJ],Qd _,ne,e2,λ_=>none,(Heap.Ns1.of_empty e3).at λo q=>PB _ q,λ_=>Re,λy hy=>absurd rfl hy⟩
theorem GI{f:Str}(hb:Sh e f env (eval e env)=eval e env)(h:wpAny (model prog w) A (eval e env) (λo s₁=>wpAny (model prog w) A (getAttr o f true) Q E s₁) E s):wpAny (model prog w) A (eval (.Attribute e f pos) env) Q E s:=
 Attribute_any_ h (by rw[arm_eval_Attribute,hb])
end
def NM(K:Py)(ta:TE)(f:Str):TE:=λσ H Q=>ta σ H λx H1=>∃a C dx fs v,x=.ref a/\H1 a=some (.ins C dx fs)/\Cls K C/\iA K C f/\fs.lookup f=some v/\Q v H1
def NN(K:Py)(ta tv:TE)(f:Str):TS:=λD σ H=>tv σ H λy H1=>ta σ H1 λx H2=>∃a C dx fs,x=.ref a/\H2 a=some (.ins C dx fs)/\Cls K C/\iA K C f/\fs.length<1000/\
 D.nx σ (upd H2 a (.ins C dx (hZ f y fs)))
def Ln(X:Cx)(op:Operator)(rd:V->V->Hp->VK->Prop):Prop:=
 ∀(pins:List (Addr×Obj))(s:Shared)(σ:St)(H:Hp)(x y:V)(u v:Value)(Q:VK),Inv X pins σ H s->RelV x u->RelV y v->rd x y H Q->wpAny (model X.prog X.w) X.A (inplaceOp op u v) (EP X pins σ Q) X.xe s
def GJ(K:Py)(ta tv:TE)(rd:V->V->Hp->VK->Prop)(f:Str):TS:=λD σ H=>ta σ H λx H1=>∃a C dx fs v,x=.ref a/\H1 a=some (.ins C dx fs)/\Cls K C/\iA K C f/\fs.lookup f=some v/\
 tv σ H1 λy H2=>rd v y H2 λz H3=>∃qy ku,H3 a=some (.ins C qy ku)/\ku.length<1000/\D.nx σ (upd H3 a (.ins C qy (hZ f z ku)))
theorem Jr{f:Str}(he:PE X e ta)(hb:Sh e f X.env (eval e X.env)=eval e X.env):PE X (.Attribute e f pos) (NM X.K ta f):=by
 intro pins s σ H Q I h;refine GI hb (thn (he pins s σ H _ I h) λu s1 hz=>?_);obtain⟨x,H1,I1,rx,a,C,dx,fs,v,ex,ea,c,n,l,q⟩:=hz;subst ex;obtain rfl:u=Qk a:=rx;exact sL I1 ea c n l λu' s2 I2 ru=>⟨v,H1,I2,ru,q⟩
variable{tv:TE}{value:Expr}
theorem Js{o:Expr}{f:Str}(ha:PE X o ta)(hv:PE X value tv)(hs:S8 value (some (.Attribute o f pos')) pos.line X.env=pure false):PS X (.Assign [.Attribute o f pos'] value pos) (NN X.K ta tv f):=by
 intro pins s σ H D I h;refine plainObj_wpAny_Assign_Attribute (thn (hv pins s σ H _ I h) λu s1 ⟨y,H1,I1,ry,q⟩=>thn (ha pins s1 σ H1 _ I1 q) λov s2 hz=>?_) hs;obtain⟨x,H2,I2,rx,a,C,dx,fs,ex,ea,c,n,l,q2⟩:=hz;subst ex;obtain rfl:ov=Qk a:=rx;exact sM I2 ea c n l ry λs3 I3=>⟨σ,_,I3,q2⟩
variable{jg:Pos}
theorem CL{o:Expr}{f:Str}{op:Operator}{rd:V->V->Hp->VK->Prop}(ha:PE X o ta)(hv:PE X value tv)(yi:Ln X op rd):PS X (.AugAssign (.Attribute o f jg) op value pos) (GJ X.K ta tv rd f):=by
 intro pins s σ H D I h;refine wpAny_AugAssign_AttributeAny (thn (ha pins s σ H _ I h) λov s1 hz=>?_);obtain⟨x,H1,I1,rx,a,C,dx,fs,v,ex,ea,c,n,l,q⟩:=hz;subst ex;obtain rfl:ov=Qk a:=rx;refine sL I1 ea c n l λu s2 I2 ru=>thn (hv pins s2 σ H1 _ I2 q) λw3 s3 ⟨y,H2,I3,ry,q3⟩=>thn (yi pins s3 σ H2 v y u w3 _ I3 ru ry q3) λw4 s4 hz=>?_;obtain⟨z,H3,I4,rz,qy,ku,y4,l',q4⟩:=hz;exact sM I4 y4 c n l' rz λs5 I5=>⟨σ,_,I5,q4⟩
def NO:V->V->Hp->VK->Prop:=λx y H Q=>∃i j,x=.int i/\y=.int j/\Q (.int (i+j)) H
theorem Jt:Ln X .Add NO:=by
 rintro pins s σ H x y u v Q I rx ry ⟨i,j,rfl,rfl,q⟩;obtain⟨t,rfl⟩:=(show ∃t,u=Value.int i t from rx)
 obtain⟨t',rfl⟩:=(show ∃t',v=Value.int j t' from ry)
 exact PyProof.Rows.iadd_int ⟨.int (i+j),H,I.tok _,⟨_,rfl⟩,q⟩
inductive pN(K:Py)(H:Hp):V->Value->Prop where
 |non:pN K H .non (.type "NoneType")
 |bl (x:Bool):pN K H (.bl x) (.type "bool")
 |int (i:Int):pN K H (.int i) (.type "int")
 |str (x:Str):pN K H (.str x) (.type "str")
 |flt (x:UInt64):pN K H (.flt x) (.type "float")
 |lst {a:Addr} {xs:List V} (e:H a=some (.lst xs)):pN K H (.ref a) (.type "list")
 |frz {a:Addr} {o:Obj} {xs:List V} (e:H a=some (.frz o (.lst xs))):pN K H (.ref a) (.type "list")
 |tup {a:Addr} {xs:List V} (e:H a=some (.tup xs)):pN K H (.ref a) (.type "tuple")
 |dK {a:Addr} {kvs:List (Key×V)} (e:H a=some (.dK kvs)):pN K H (.ref a) (.type "dict")
 |dT {a:Addr} {kvs:List (List Key×V)} (e:H a=some (.dT kvs)):pN K H (.ref a) (.type "dict")
 | ins {a C dx:Addr} {fs:List (Str×V)} (e:H a=some (.ins C dx fs)) (cl:Cls K C) (ha:QE K (.ref C) "__class__" = some (some (.builtin "object.__class__")))
   (hn:PySem.W.specialIn K (.builtin "object.__class__") "__get__" = some (some (.builtin "getset_descriptor.__get__"))) (htk:PySem.W.takesIn K (.builtin "object.__class__")=some true)
   (hm:PySem.W.mroIn K C (.type "object")=some true):pN K H (.ref a) (.ref C)
theorem CM{c:Value}{x:V}{t:Value}(I:Inv X pins σ H s)(rx:RelV x u)(ty:pN X.K H x t)(e:PySem.W.kitOne X.K t c=some b)(h:∀tk,Q (.bool b) { s with toks:=tk }):
  wpAny (model X.prog X.w) A (call (.builtin "isinstance") [u,c]) Q E s:=by
 cases ty with
 |non=>cases(show u=P7 from rx);exact QI PySem.W.kitx_none I.kIn Re e (λz=>nomatch z) h
 |bl y=>cases(show u=Value.bool y from rx);exact QI PySem.W.kitx_bool I.kIn Re e (λz=>nomatch z) h
 |int i=>obtain⟨t,q⟩:=(show ∃t,u=Value.int i t from rx);cases q;exact QI PySem.W.kitx_int I.kIn Re e (λz=>nomatch z) h
 |str y=>obtain⟨t,q⟩:=(show ∃t,u=Value.str y t from rx);cases q;exact QI PySem.W.kitx_str I.kIn Re e (λz=>nomatch z) h
 |flt y=>obtain⟨t,q⟩:=(show ∃t,u=Value.float y t from rx);cases q;exact QI PySem.W.kitx_float I.kIn Re e (λz=>nomatch z) h
 | @lst a xs ea=>
  cases(show u=Qk a from rx)
  obtain⟨_,_,n,_,h1⟩:=(show bC X.prog X.w H s.heap a (.lst xs) from I.hok a _ ea)
  exact QI PySem.W.kitx_list I.kIn ⟨_,h1,rfl⟩ e (λz=>nomatch z) h
 | @frz a ob xs ea=>
  cases(show u=Qk a from rx)
  obtain⟨_,_,_,n,_,h1⟩:=(show bC X.prog X.w H s.heap a (.frz ob (.lst xs)) from I.hok a _ ea)
  exact QI PySem.W.kitx_list I.kIn ⟨_,h1,rfl⟩ e (λz=>nomatch z) h
 | @tup a xs ea=>
  cases(show u=Qk a from rx)
  obtain⟨_,_,_,p⟩:=(show bC X.prog X.w H s.heap a (.tup xs) from I.hok a _ ea)
  obtain⟨o,h1,h2,_⟩:=p;exact QI PySem.W.kitx_tuple I.kIn ⟨o,h1,h2⟩ e (λz=>nomatch z) h
 | @dK a kvs ea=>
  cases(show u=Qk a from rx)
  obtain⟨_,_,vs,_,p⟩:=(show bC X.prog X.w H s.heap a (.dK kvs) from I.hok a _ ea)
  obtain⟨o,es,ep,h1,h2,_⟩:=p;exact QI PySem.W.kitx_dict I.kIn ⟨o,h1,h2.1⟩ e (λz=>nomatch z) h
 | @dT a kvs ea=>
  cases(show u=Qk a from rx)
  obtain⟨_,_,xs,_,o,es,ep,h1,h2,_⟩:=(show bC X.prog X.w H s.heap a (.dT kvs) from I.hok a _ ea)
  exact QI PySem.W.kitx_dict I.kIn ⟨o,h1,h2.1⟩ e (λz=>nomatch z) h
 | @ins a C dx fs ea cl ha hn htk hm=>
  cases(show u=Qk a from rx)
  obtain⟨mA,O,_⟩:=rX I.hok ea;obtain⟨od,J,_⟩:=O.look;exact QI (PySem.W.kitx_own (cl.get _) cl.hd ha hn htk hm) I.kIn J e (λz=>nomatch z) h
structure dX(k:Nat)(A:Around):Prop where
 hd:A.handled=none
 dp:A.depth+3*k+5<recursionLimit
 un:A.units+16*k+200<cLine
theorem dX.mono{k:Nat}(r:dX k A)(h:j<=k):dX j A:=⟨r.hd,by have:=r.dp;omega,by have:=r.un;omega⟩
theorem dX.deeper{k:Nat}(r:dX (k+1) A)(env:Env):dX k (A.deeper env):=
 ⟨r.hd,by have:=r.dp;show A.depth+1+3*k+5<_;omega,by have:=r.un;show A.units+3+16*k+200<_;omega⟩
theorem dX.in1{k:Nat}(r:dX (k+1) A):dX k A.in1:=
 ⟨r.hd,by have:=r.dp;show A.depth+3*k+5<_;omega,by have:=r.un;show A.units+1+16*k+200<_;omega⟩
theorem AY{C:Addr}:(A.under (.builtin "type.__call__" ⟨.ref C::us,kw⟩)).depth=A.depth+1:=by
 first|rfl|simp[Around.under,Code.weight,Code.isCreation,Code.isGuard,Code.isCaller,Code.frames,Code.isFrame,guardIds]
theorem AZ{C:Addr}:(A.under (.builtin "type.__call__" ⟨.ref C::us,kw⟩)).units=A.units+1:=by
 first|rfl|simp[Around.under,Code.cUnits,Code.frames,Code.isFrame]
theorem dX.make{k:Nat}(r:dX (k+1) A)(C:Addr)(us:List Value)(kw:List (Str×Value)):dX k (A.under (.builtin "type.__call__" ⟨.ref C::us,kw⟩)):=
 ⟨r.hd,by have:=r.dp;rw[AY];omega,by have:=r.un;rw[AZ];omega⟩
theorem dX.depth{k:Nat}(r:dX k A):A.depth<recursionLimit:=by have:=r.dp;omega
theorem dX.units{k:Nat}(r:dX k A):A.units+64<cLine:=by have:=r.un;omega
def GK:TA:=λ_ H Q=>Q [] H
def IL(ta:TE)(tr:TA):TA:=λσ H Q=>ta σ H λx H1=>tr σ H1 λxs H2=>Q (x::xs) H2
section
variable{t:TA}
theorem xS:PA X [] GK:=λ_ _ _ _ H Q I h=>Calls.spliced_nil ⟨[],H,I,.nil,h⟩
theorem rY(ha:PE X e te)(hr:PA X es t)(hs:P3 (e::es) X.env=(false,eval e X.env)::P3 es X.env:=by rfl):PA X (e::es) (IL te t):=by
 intro pos pins s σ H Q I h;rw[hs]
 show wpAny _ _ (spliced ((false,eval e X.env)::backTo pos (P3 es X.env))) _ _ s
 refine Calls.spliced_cons (thn (ha pins s σ H _ I h) λu s1 hz=>?_);obtain⟨x,H1,I1,r1,q1⟩:=hz;exact thn (hr pos pins s1 σ H1 _ I1 q1) λus s2 ⟨xs,H2,I2,r2,q2⟩=>⟨x::xs,H2,I2,.cons r1 r2,q2⟩
def NP(t:TA):TE:=λσ H Q=>t σ H λxs H1=>xs.length<=PP/\∀p,H1 p=none->Q (.ref p) (upd H1 p (.tup xs))
def NQ(t:TA):TE:=λσ H Q=>t σ H λxs H1=>xs.length<=PP/\∀p,H1 p=none->Q (.ref p) (upd H1 p (.lst xs))
theorem Ju{x1}(h:PA X es t):PE X (.Tuple es x1 pos) (NP t):=by
 intro pins s σ H Q I hq;refine wpAny_Tuple_spliced (thn (h pos pins s σ H _ I hq) λus s1 ⟨xs,H1,I1,r,z,q⟩=>⟨by rw[<-r.length];exact z,?_⟩);have hf:H1 s1.heap.objs.size=none:=I1.hok.fresh (PD _);refine⟨.ref s1.heap.objs.size,upd H1 s1.heap.objs.size (.tup xs),I1.laid (t':=s1.toks) (λb u e=>PB _ e) (PD _) ?_,rfl,q _ hf⟩;exact⟨z,us,r,⟨_,PR _ rfl,rfl,⟨_,rfl⟩,rfl⟩⟩
theorem Jv(h:PA X es t):PE X (.List es pos) (NQ t):=by
 intro pins s σ H Q I hq;refine wpAny_List_spliced (thn (h pos pins s σ H _ I hq) λus s1 ⟨xs,H1,I1,r,z,q⟩=>⟨by rw[<-r.length];exact z,?_⟩);have hf:H1 s1.heap.objs.size=none:=I1.hok.fresh (PD _);refine⟨.ref s1.heap.objs.size,upd H1 s1.heap.objs.size (.lst xs),I1.laid (t':=s1.toks) (λb u e=>PB _ e) (PD _) ?_,rfl,q _ hf⟩;exact⟨z,us,0,r,PR _ rfl⟩
end
abbrev Sp:=List V->Hp->VK->XK->Prop
abbrev CXT:=List Env->Hp->Shared->XK->Value->Shared->Prop
structure vA(P:Program)(w:World)(K:Py)(mg:Str->Option Value)(base:Heap)(A:Around)(outer:List Env)(s:Shared)(H:Hp):Prop where
 frames:A.frames=some outer
 mod:Mod K mg base
 bs:∀b o,base.get? b=some o->s.heap.get? b=some o/\H b=none
 bsz:base.objs.size<=s.heap.objs.size
 funs:s.heap.FunFrames base outer
 frf:∀b∈frs outer,H b=none
 hok:HOk P w H s.heap
 bare:AllBare s.gens
def CE(outer:List Env)(P:Program)(w:World)(H:Hp)(s:Shared)(Q:VK)(u:Value)(s':Shared):Prop:=
 ∃v H',s'.os=s.os/\AllBare s'.gens/\Un (frs outer) [] H H' s.heap s'.heap/\HOk P w H' s'.heap/\RelV v u/\Q v H'
def CR(CX:CXT)(outer:List Env)(P:Program)(w:World)(H:Hp)(s:Shared)(Q:VK)(E:XK)(r:Result)(s':Shared):Prop:=
 match r with
 |.ok (.ret u)=>CE outer P w H s Q u s'
 |.ok _=>False
 |.error e=>CX outer H s E e s'
structure cE(P:Program)(w:World)(K:Py)(mg:Str->Option Value)(base:Heap)(CX:CXT)(k:Nat)(f:Addr)(fd:Rl)(ps:List Str)(sp:Sp):Prop where
 len:∀vs H Q E,sp vs H Q E->vs.length=ps.length
 run:∀(A:Around)(outer:List Env)(s:Shared)(H:Hp)(args:Args)(us:List Value)(vs:List V)(Q:VK)(E:XK),dX k A->vA P w K mg base A outer s H->BindsTo s fd args (ps.zip us)->aI vs us->sp vs H Q E->
  codeAny (model P w) A (.call (.ref f) args) (CR CX outer P w H s Q E) s
variable{CX:CXT}{fd:Rl}{mg:Str->Option Value}{ps:List Str}{sp:Sp}
theorem cE.imp{base:Heap}{k:Nat}{f:Addr}{xr:Sp}(F:cE P w K mg base CX k f fd ps sp)(h:∀vs H Q E,xr vs H Q E->sp vs H Q E):cE P w K mg base CX k f fd ps xr:=
 ⟨λvs H Q E q=>F.len vs H Q E (h _ _ _ _ q),λA outer s H args us vs Q E hr he hb hv hs=>F.run A outer s H args us vs Q E hr he hb hv (h _ _ _ _ hs)⟩
variable{outer:List Env}
theorem vA.make{base:Heap}(e:vA P w K mg base A outer s H)(C:Addr)(us:List Value)(kw:List (Str×Value)):
  vA P w K mg base (A.under (.builtin "type.__call__" ⟨.ref C::us,kw⟩)) outer s H:=⟨by first|exact e.frames|(simpa[Around.under,Code.envs,Code.isFrame,pushEnvs] using e.frames),e.mod,e.bs,e.bsz,e.funs,e.frf,e.hok,e.bare⟩
theorem vA.in1{base:Heap}(e:vA P w K mg base A outer s H):
  vA P w K mg base A.in1 outer s H:=⟨e.frames,e.mod,e.bs,e.bsz,e.funs,e.frf,e.hok,e.bare⟩
theorem Inv.env0(I:Inv X pins σ H s):vA X.prog X.w X.K X.mg X.base X.A X.stack s H:=
 ⟨I.ok.frames,I.ok.mod,I.bs,Qb I.ok.bsz I.sz,I.stack,I.stkFree,I.hok,I.bare⟩
theorem Inv.after{Q:VK}(I:Inv X pins σ H s)(h:CE X.stack X.prog X.w H s Q u s'):EP X pins σ Q u s':=by
 obtain⟨v,H',os,bare,un,hok,r,q⟩:=h;obtain⟨hh,g,d,t,rg⟩:=s';obtain rfl:rg=s.os:=os;exact⟨v,H',I.call (h':=hh) (g':=g) (d':=d) (t':=t) (ch:=[]) un hok bare (λb z=>absurd z (by simp)),r,q⟩
def Eb(sp:Sp)(cu:List V)(E:XK)(t:TA):TE:=λσ H Q=>t σ H λvs H1=>sp (vs++cu) H1 Q E
def IM(C:Addr)(sp:Sp)(cu:List V)(E:XK)(t:TA):TE:=λσ H Q=>t σ H λvs H1=>∀x dx,H1 x=none->H1 dx=none->dx≠x->
 sp (.ref x::(vs++cu)) (upd (upd H1 dx (.own x)) x (.ins C dx [])) (λv H2=>v=.non/\Q (.ref x) H2) E
def Binds(K:Py)(fd:Rl)(ps:List Str)(ds:List Value):Prop:=
 ∀(s:Shared)(us:List Value),K.In s.heap->(us++ds).length=ps.length->BindsTo s fd ⟨us,[]⟩ (ps.zip (us++ds))
theorem Binds.all(h:∀us:List Value,us.length=ps.length->bindArgs fd ⟨us,[]⟩=pure (ps.zip us)):Binds K fd ps []:=λs us _ hl=>by
 rw[Ru]at hl⊢;exact .of_eq (h us hl)
def mD(CX:CXT)(X:Cx)(E:XK):Prop:=∀(pins:List (Addr×Obj))(σ:St)(H:Hp)(s:Shared)(e:Value)(s':Shared),Inv X pins σ H s->CX X.stack H s E e s'->X.xe e s'
variable{cu vs:List V}
section
variable{k:Nat}{f C:Addr}{ds:List Value}{E:XK}{m:Str}{p:Pos}{o:Expr}{t:TA}
theorem B0{Q:VK}(F:cE X.prog X.w X.K X.mg X.base CX k f fd ps sp)(hr:dX k X.A)(hb:Binds X.K fd ps ds)(hd:aI cu ds)(hx:mD CX X E)(I:Inv X pins σ H s)(r:aI vs us)(h:sp (vs++cu) H Q E):wpAny (model X.prog X.w) X.A (call (.ref f) us) (EP X pins σ Q) X.xe s:=by
 have r2:aI (vs++cu) (us++ds):=r.append hd;have hl:(us++ds).length=ps.length:=by rw[<-r2.length];exact F.len _ _ _ _ h
 refine wpAny_call (codeAny_mono (F.run X.A X.stack s H ⟨us,[]⟩ (us++ds) (vs++cu) Q E hr I.env0 (hb s us I.kIn hl) r2 h) λr s' hq=>?_);cases r with
 |error e=>exact hx pins σ H s e s' I hq
 |ok fl=>
  cases fl with
  |ret u=>exact I.after hq
  |next=>exact Rn hq
  |brk=>exact Rn hq
  |cont=>exact Rn hq
theorem GL(F:cE X.prog X.w X.K X.mg X.base CX k f fd ps sp)(hr:dX k X.A)(hg:Gl X x)(hm:X.mg x=some (.ref f))(hk:Rr X.K (.ref f)=true)(hb:Binds X.K fd ps ds)(hd:aI cu ds)(hx:mD CX X E)
  (ha:PA X (e::es) t) (b0:(x == ("__debug__" : Str))=false:=by decide) (he:P3 (e::es) X.env=(false,eval e X.env)::P3 es X.env:=by rfl) (bg:(backTo pos (P3 es X.env)).any (·.1)=false:=by rfl):
  PE X (.Call (.Name x p) (e::es) [] pos) (Eb sp cu E t):=by
 intro pins s σ H Q I h;refine QT (iM I hg hm ?_ b0);refine PySem.W.callWith_K (h₀:=X.base) I.ok.mod.kin hk (thn (ha pos pins s σ H _ I h) λus s1 ⟨vs,H1,I1,r,q⟩=>⟨I1.kIn,?_⟩) he bg;exact B0 F hr hb hd hx I1 r q
theorem Ec(F:cE X.prog X.w X.K X.mg X.base CX k f fd ps sp)(hr:dX k X.A)(hg:Gl X x)(hm:X.mg x=some (.ref f))(hk:Rr X.K (.ref f)=true)(hb:Binds X.K fd ps ds)(hd:aI cu ds)(hx:mD CX X E)
  (b0:(x == ("__debug__" : Str))=false:=by decide):PE X (.Call (.Name x p) [] [] pos) (Eb sp cu E GK):=by
 intro pins s σ H Q I h;refine QT (iM I hg hm ?_ b0);exact PySem.W.callWith_K0 I.kIn hk (B0 (us:=[]) F hr hb hd hx I .nil h)
structure Mk(K:Py)(C f:Addr):Prop where
 makes:PySem.W.makesIn K C=true
 init:QE K (.ref C) "__init__" = some (some (.ref f))
 fn:PySem.W.isFn K (.ref f)=true
 kp:Rr K (.ref C)=true
theorem A3{Q:VK}(M:Mk X.K C f)(F:cE X.prog X.w X.K X.mg X.base CX k f fd ps sp)(hr:dX (k+1) X.A)(hb:Binds X.K fd ps ds)(hd:aI cu ds)(hx:mD CX X E)(I:Inv X pins σ H s)(r:aI vs us)(h:∀x dx,H x=none->H dx=none->dx≠x->sp (.ref x::(vs++cu)) (upd (upd H dx (.own x)) x (.ins C dx [])) (λv H2=>v=.non/\Q (.ref x) H2) E):
  wpAny (model X.prog X.w) X.A (call (.ref C) us) (EP X pins σ Q) X.xe s:=by
 have hq:=h (s.heap.objs.size+1) s.heap.objs.size (I.hok.fresh (Q9 _)) (I.hok.fresh (PD _)) (P9 (Nat.lt_succ_self _));have I2:=Inv.made (C:=C) I;have r2:aI (V.ref (s.heap.objs.size+1)::(vs++cu)) (Qk (s.heap.objs.size+1)::(us++ds)):=.cons rfl (r.append hd);have hl:(Qk (s.heap.objs.size+1)::us++ds).length=ps.length:=by
  have e:=r2.length;rw[F.len _ _ _ _ hq]at e;exact e.symm
 refine wpAny_call (Ea (f:=f) I.kIn M.makes M.init (beq_iff_eq.mp M.fn) (codeAny_mono (F.run _ X.stack _ _ ⟨Qk (s.heap.objs.size+1)::us,[]⟩ (Qk (s.heap.objs.size+1)::(us++ds)) _ _ E (hr.make C us [])
  (I2.env0.make C us []) (hb _ (Qk (s.heap.objs.size+1)::us) I2.kIn hl) r2 hq) λr s' l9=>?_))
 cases r with
 |error e=>exact hx pins σ _ _ e s' I2 l9
 |ok fl=>
  cases fl with
  |ret u=>
   obtain⟨v,H',I3,rv,ev,q3⟩:=I2.after l9;subst ev;exact⟨rv,⟨V.ref (s.heap.objs.size+1),H',I3,rfl,q3⟩⟩
  |next=>exact Rn l9
  |brk=>exact Rn l9
  |cont=>exact Rn l9
theorem GM(M:Mk X.K C f)(F:cE X.prog X.w X.K X.mg X.base CX k f fd ps sp)(hr:dX (k+1) X.A)(hg:Gl X x)(hm:X.mg x=some (.ref C))(hb:Binds X.K fd ps ds)(hd:aI cu ds)(hx:mD CX X E)
  (ha:PA X (e::es) t) (b0:(x == ("__debug__" : Str))=false:=by decide) (he:P3 (e::es) X.env=(false,eval e X.env)::P3 es X.env:=by rfl) (bg:(backTo pos (P3 es X.env)).any (·.1)=false:=by rfl):
  PE X (.Call (.Name x p) (e::es) [] pos) (IM C sp cu E t):=by
 intro pins s σ H Q I h;refine QT (iM I hg hm ?_ b0);refine PySem.W.callWith_K (h₀:=X.base) I.ok.mod.kin M.kp (thn (ha pos pins s σ H _ I h) λus s1 ⟨vs,H1,I1,r,q⟩=>⟨I1.kIn,?_⟩) he bg;exact A3 M F hr hb hd hx I1 r q
theorem Ed(M:Mk X.K C f)(F:cE X.prog X.w X.K X.mg X.base CX k f fd ps sp)(hr:dX (k+1) X.A)(hg:Gl X x)(hm:X.mg x=some (.ref C))(hb:Binds X.K fd ps ds)(hd:aI cu ds)(hx:mD CX X E)
  (b0:(x == ("__debug__" : Str))=false:=by decide):PE X (.Call (.Name x p) [] [] pos) (IM C sp cu E GK):=by
 intro pins s σ H Q I h;refine QT (iM I hg hm ?_ b0);exact PySem.W.callWith_K0 I.kIn M.kp (A3 (us:=[]) M F hr hb hd hx I .nil h)
end
structure nP(N P:List Str)(sc:Scope):Prop where
 kind:sc.kind=.function
 co:sc.isCoroutine=false
 gen:sc.isGenerator=false
 nd:N.Nodup
 pre:N.take P.length=P
 par:∀x∈P,sc.names.lookup x=some .local\/sc.names.lookup x=some .cell
 nofree:∀y∈sc.names,y.2≠.free
theorem vN{kindOf:Str->Option Sr}{x:Str}:∀{binds:List (Str×Value)}{m:Str->Option Value},(∀v,(x,v)∉binds)->bindL kindOf binds m x=m x
 |[],_,_=>rfl
 |(n,v)::r,m,h=>by
  unfold bindL;rw[vN λw hw=>h w (PK _ hw)];split
  ·have:x≠n:=by rintro rfl;exact h v PN
   simp[this]
  ·rfl
theorem vO{kindOf:Str->Option Sr}{x:Str}:∀{binds:List (Str×Value)}{m:Str->Option Value},(∀v,(x,v)∉binds)->bindC kindOf binds m x=m x
 |[],_,_=>rfl
 |(n,v)::r,m,h=>by
  unfold bindC;rw[vO λw hw=>h w (PK _ hw)];split
  ·rfl
  ·have:x≠n:=by rintro rfl;exact h v PN
   simp[this]
theorem vP{kindOf:Str->Option Sr}{x:Str}{v:Value}:∀{P:List Str}{vs:List Value}{i:Nat}{m:Str->Option Value},P.Nodup->P[i]?=some x->vs[i]?=some v->kindOf x=some .local->
  bindL kindOf (P.zip vs) m x=some v
 |[],_,_,_,_,h,_,_=>by simp at h
 |_::_,[],_,_,_,_,h,_=>by simp at h
 |p::P,w::vs,0,m,nd,h1,h2,hk=>by
  simp at h1 h2;subst h1;subst h2
  show bindL kindOf ((p,w)::P.zip vs) m p=_
  unfold bindL;rw[vN λv hv=>(Rv.mp nd).1 (List.of_mem_zip hv).1,if_pos hk];simp
 |p::P,w::vs,i+1,m,nd,h1,h2,hk=>by
  show bindL kindOf ((p,w)::P.zip vs) m x=_
  unfold bindL;exact vP (i:=i) (Rv.mp nd).2 (by simpa using h1) (by simpa using h2) hk
theorem vQ{kindOf:Str->Option Sr}{x:Str}{v:Value}:∀{P:List Str}{vs:List Value}{i:Nat}{m:Str->Option Value},P.Nodup->P[i]?=some x->vs[i]?=some v->kindOf x≠some .local->
  bindC kindOf (P.zip vs) m x=some v
 |[],_,_,_,_,h,_,_=>by simp at h
 |_::_,[],_,_,_,_,h,_=>by simp at h
 |p::P,w::vs,0,m,nd,h1,h2,hk=>by
  simp at h1 h2;subst h1;subst h2
  show bindC kindOf ((p,w)::P.zip vs) m p=_
  unfold bindC;rw[vO λv hv=>(Rv.mp nd).1 (List.of_mem_zip hv).1,if_neg hk];simp
 |p::P,w::vs,i+1,m,nd,h1,h2,hk=>by
  show bindC kindOf ((p,w)::P.zip vs) m x=_
  unfold bindC;exact vQ (i:=i) (Rv.mp nd).2 (by simpa using h1) (by simpa using h2) hk
def start(N:List Str)(vs:List V):St:=vs.map some++Sm (N.length-vs.length) none
def vB(CX:CXT)(P:Program)(w:World)(K:Py)(mg:Str->Option Value)(base:Heap)(N:List Str)(qual:Str)(scope:Scope)(f:Addr)(cd:Value)(A:Around)(outer:List Env)(s:Shared)(H:Hp)(E:XK):Cx where
 prog:=P
 w:=w
 K:=K
 mg:=mg
 base:=base
 A:=A.deeper (envOfC qual scope s.heap.objs.size f cd)
 N:=N
 s₀:=s
 H₀:=H
 env:=envOfC qual scope s.heap.objs.size f cd
 outer:=outer
 stack:=envOfC qual scope s.heap.objs.size f cd::outer
 ex:=[]
 calm:=true
 fn:=λ_=>true
 pn:=[]
 xe:=λe s'=>wpAny (model P w) (A.deeper (envOfC qual scope s.heap.objs.size f cd)) (leaving (envOfC qual scope s.heap.objs.size f cd) e) (λ_ df=>CX outer H s E e df) (λe' df=>CX outer H s E e' df) s'
variable{sc:Scope}
theorem A4(h:sc.names.lookup x=some .cell):∃c,(QJ n sc.names []).lookup x=some c:=by
 have q:=PySem.W.cellsFrom_some sc.names n [] (.inl h);exact Option.isSome_iff_exists.mp q
variable{cd:Value}{qual:Str}{s1:Shared}{scope:Scope}
theorem CN{base:Heap}{f:Addr}{E:XK}(S:nP N ps scope)(hd:A.handled=none)(e0:vA P w K mg base A outer s H)(hl:vs.length=ps.length)(r:aI vs us)(x:InCallC s s.heap.objs.size (bindL (envOfC qual scope s.heap.objs.size f cd).kindOf (ps.zip us) λ_=>none) (QJ (s.heap.objs.size+1) scope.names []) (bindC (envOfC qual scope s.heap.objs.size f cd).kindOf (ps.zip us) λ_=>none) s1):
  Inv (vB CX P w K mg base N qual scope f cd A outer s H E) [] (start N vs) H s1:=by
 have bg:ps.length<=N.length:=by have:=congrArg Te S.pre;rw[QK]at this;omega
 obtain⟨h1,tk,rfl,hk⟩:=x.done;have m7:∀b:Addr,b∉(vB CX P w K mg base N qual scope f cd A outer s H E).ex:=λb z=>absurd (show b∈([]:List Addr) from z) (by simp)
 refine⟨⟨e0.mod,S.kind,rfl,rfl,PD _,λy z c h1 h2=>?_,λy hy=>?_,λy c _ h=>?_,λ_=>hd,Around.frames_deeper e0.frames,.inr ⟨rfl,rfl⟩,λb z=>absurd z (m7 b),e0.bs,e0.bsz,λb _ _=>m7 b,λb z=>absurd z (m7 b),e0.funs,e0.frf⟩,
  rfl,e0.bare,Un.kept hk,⟨_,x.toInCall.ns,λi y v h1 h2 h3=>?_⟩,λy c h=>⟨_,x.cell y c h⟩,e0.hok.fresh (PD _),λy c h=>?_,λp hp=>absurd (show p∈([]:List (Addr×Obj)) from hp) (by simp),e0.hok.kept hk,?_⟩
 ·exact name_of_addr x.apart (Si h1) (Si h2)
 ·have hy:scope.names.lookup y=some .cell\/scope.names.lookup y=some .free:=hy;rcases hy with hy|hy
  ·exact A4 hy
  ·exact absurd rfl (S.nofree _ (Si hy))
 ·exact Rt (x.above y c (Si h))
 ·have hi:i<vs.length:=by
   unfold start at h2
   by_cases hi:i<vs.length
   ·exact hi
   ·rw[Q1 (by simpa using hi)]at h2
    rw[List.getElem?_replicate]at h2;split at h2 <;> cases h2
  have ha:vs[i]?=some v:=by
   unfold start at h2;rw[QC (by simpa using hi),PQ]at h2
   cases e:vs[i]? with
   |none=>rw[e]at h2;cases h2
   |some a=>rw[e]at h2;cases h2;rfl
  obtain⟨u,hu,rv⟩:=r.get ha;have hp:ps[i]?=some y:=by
   rw[<-S.pre,List.getElem?_take_of_lt (by omega)];exact h1
  have vx:ps.Nodup:=by rw[<-S.pre];exact S.nd.sublist (List.take_sublist _ _)
  refine⟨u,rv,?_⟩;rcases S.par y (Qp hp) with k|k
  ·exact .inl ⟨k,vP vx hp hu k⟩
  ·obtain⟨c,e⟩:=A4 (n:=s.heap.objs.size+1) k;refine .inr ⟨.inl k,c,e,?_⟩;have q:=x.cell y c e;rw[vQ vx hp hu (by show scope.names.lookup y≠_;rw[k];decide)]at q;exact q
 ·exact e0.hok.fresh (Rt (x.above y c (Si h)))
 ·unfold start
  show _=N.length
  rw[QU,PC,List.length_replicate];omega
variable{an:Option Addr}{cdv ct doc pm:Value}{osl:Array (Option Value)}{params:Arguments}
theorem Lo{base:Heap}{k:Nat}{f:Addr}{body:List Stmt}{dV kV oc:Value}{od:Option Addr}(lk:K.lookup f=some ⟨oc,od,.func (Rk name qual params body scope dV kV doc pm an cdv ct),osl⟩)(fh:Tf K cdv qual=true)(S:nP N ps scope)(len:∀vs H Q E,sp vs H Q E->vs.length=ps.length)(ic:∀(A:Around)(outer:List Env)(s:Shared)(H:Hp)(vs:List V)(Q:VK)(E:XK),dX k (A.deeper (envOfC qual scope s.heap.objs.size f cdv))->sp vs H Q E->
   ∃t,PSs (vB CX P w K mg base N qual scope f cdv A outer s H E) body t/\t { nx:=λ_ H'=>Q .non H',rt:=Q } (start N vs) H):
  cE P w K mg base CX (k+1) f (Rk name qual params body scope dV kV doc pm an cdv ct) ps sp:=by
 refine⟨len,λA outer s H args us vs Q E hr e0 hb r j3=>?_⟩;have hl:=len _ _ _ _ j3;have KX:K.In s.heap:=e0.mod.kin.keeps λb o e=>(e0.bs b o e).1;have lim:s.heap.NoLimit:=e0.mod.nolimit.keeps λb o e=>(e0.bs b o e).1;have mz:∀y∈ps.zip us,scope.names.lookup y.1=some .local\/(scope.names.lookup y.1=some .cell/\((QJ (s.heap.objs.size+1) scope.names []).lookup y.1).isSome=true):=λ⟨n,v⟩ hy=>by
  rcases S.par n (List.of_mem_zip hy).1 with q|q
  ·exact .inl q
  ·exact .inr ⟨q,PySem.W.cellsFrom_some _ _ _ (.inl q)⟩
 refine codeAny_call_function hr.depth (KX _ _ lk) rfl S.co S.gen rfl (PySem.W.codeRec_of KX fh) (hb _ _ _ _ ?_);refine wpAny_newFunctionEnv_cells S.kind mz λenv he s1 x=>?_;subst he;refine⟨lim.keeps x.toInCall.keep,codeAny_func ?_⟩;obtain⟨t,ht,hq⟩:=ic A outer s H vs Q E (hr.deeper _) j3;have I:Inv (vB CX P w K mg base N qual scope f cdv A outer s H E) [] (start N vs) H s1:=CN S hr.hd e0 hl r x;refine RB (ht [] s1 (start N vs) H _ I hq) (λfl s' hs=>?_) λe s' hs=>hs;have fin:∀{σ':St}{H':Hp}{v:V}{u:Value},Inv (vB CX P w K mg base N qual scope f cdv A outer s H E) [] σ' H' s'->RelV v u->Q v H'->CE outer P w H s Q u s':=
  λ{σ' H' v u} J rv q=>⟨v,H',J.os,J.bare,J.base,J.hok,rv,q⟩
 cases fl with
 |ret u=>
  obtain⟨v,σ',H',J,rv,q⟩:=hs;exact fin J rv q
 |next=>
  obtain⟨σ',H',J,q⟩:=hs;exact fin (v:=V.non) (u:=P7) J rfl q
 |brk=>
  obtain⟨_,_,_,q⟩:=hs;exact Rn q
 |cont=>
  obtain⟨_,_,_,q⟩:=hs;exact Rn q
variable{T:String}
section
variable{p:Pos}{t:TA}{id:String}{r:List V->Hp->VK->Prop}
def tCB(r:List V->Hp->VK->Prop)(t:TA):TE:=λσ H Q=>t σ H λvs H1=>r vs H1 Q
theorem Ee(hc:bS X (.builtin id) r)(hg:Gl X x)(hm:X.mg x=none)(hv:RT x=some (.builtin id))(ha:PA X (e::es) t)(hn:x≠"__name__" := by decide)(b0:(x == ("__debug__" : Str))=false:=by decide)
  (he:P3 (e::es) X.env=(false,eval e X.env)::P3 es X.env:=by rfl) (bg:(backTo pos (P3 es X.env)).any (·.1)=false:=by rfl):PE X (.Call (.Name x p) (e::es) [] pos) (tCB r t):=by
 intro pins s σ H Q I h;refine QT (jW I hg hm hv ?_ hn b0);exact PyProof.Rows.callWith_builtin1 (thn (ha pos pins s σ H _ I h) λus s1 ⟨vs,H1,I1,r1,q1⟩=>hc pins s1 σ H1 vs us Q I1 r1 q1) he bg
theorem CO(hc:bS X (.type T) r)(hg:Gl X x)(hm:X.mg x=none)(hv:RT x=some (.type T))(ha:PA X (e::es) t)(hn:x≠"__name__" := by decide)(b0:(x == ("__debug__" : Str))=false:=by decide)
  (he:P3 (e::es) X.env=(false,eval e X.env)::P3 es X.env:=by rfl) (bg:(backTo pos (P3 es X.env)).any (·.1)=false:=by rfl):PE X (.Call (.Name x p) (e::es) [] pos) (tCB r t):=by
 intro pins s σ H Q I h;refine QT (jW I hg hm hv ?_ hn b0);exact RP (thn (ha pos pins s σ H _ I h) λus s1 ⟨vs,H1,I1,r1,q1⟩=>hc pins s1 σ H1 vs us Q I1 r1 q1) he bg
end
end L2
namespace HT
open PySem PyProof.Rows
variable{A:Around}{E Q:Value->Shared->Prop}{prog:Program}{s:Shared}{vs ws:List Value}{w:World}
theorem cat_tup{t b:Addr}(ht:IsTup s.heap t vs.toArray)(hb:IsTup s.heap b ws.toArray)(hv:vs≠[])(h1:ws=[]->Q (.ref t) s)(h2:ws≠[]->Q (.ref s.heap.objs.size) { s with heap:=s.heap.push { cls:=.type "tuple",data:=.seq (vs++ws).toArray } })(hsz:vs.length+ws.length<=PP):wpAny (model prog w) A (QW .Add (.ref t) (.ref b)) Q E s:=by
 obtain⟨⟨cls,dd,data,sl⟩,ho,hc,n,hd⟩:=id ht;obtain⟨⟨oj,jm,data2,jr⟩,ik,d0,n2,hd2⟩:=id hb;simp only at hc hd d0 hd2;subst hc hd d0 hd2;have e:vs.toArray++ws.toArray=(vs++ws).toArray:=by simp
 by_cases hw:ws=[]
 ·exact concat_meets ⟨_,ho,rfl⟩ ⟨_,ik,rfl⟩ noFill_tuple_add seq_tuple_add PySem.F.slot_tuple_add PySem.F.entry_tuple_add (PySem.F.args_tuple_add_2 _ _)
   (tuple_addW1 t b vs.toArray ws.toArray n n2 dd jm sl jr (by simpa using hv) (by simp[hw])) ⟨ho,ik,h1 hw⟩
 ·refine concat_meets ⟨_,ho,rfl⟩ ⟨_,ik,rfl⟩ noFill_tuple_add seq_tuple_add PySem.F.slot_tuple_add PySem.F.entry_tuple_add (PySem.F.args_tuple_add_2 _ _)
   (tuple_addW2 t b vs.toArray ws.toArray n n2 dd jm sl jr (by simpa using hv) (by simpa using hw) (by rw[PJ,PJ];exact hsz)) ⟨ho,ik,?_⟩
  rw[e];exact h2 hw
def sIx(n d:Nat):Option Int->Nat
 |none=>d
 |some v=>if v<0 then(v+(n:Int)).toNat else min v.toNat n
theorem Jw(n d:Nat)(hd:d<=n)(o:Option Int):sIx n d o<=n:=by
 cases o with
 |none=>exact hd
 |some v=>
  show(if v<0 then(v+(n:Int)).toNat else min v.toNat n)<=n
  by_cases hv:v<0
  ·rw[if_pos hv];omega
  ·rw[if_neg hv];exact Nat.min_le_right _ _
theorem BU(v:Int)(n d:Nat):(if v<0 then max (v+(n:Int)) 0 else min v (n:Int))=((sIx n d (some v):Nat):Int):=by
 show(if v<0 then max (v+(n:Int)) 0 else min v (n:Int))=(((if v<0 then(v+(n:Int)).toNat else min v.toNat n):Nat):Int)
 by_cases hv:v<0
 ·simp only[if_pos hv];omega
 ·simp only[if_neg hv];omega
theorem B1(lo hi:Option Int)(n:Nat):SS lo hi 1 (n:Int)=(((sIx n 0 lo:Nat):Int),((sIx n n hi:Nat):Int)):=by
 have h1:¬ ((1:Int)<0):=by omega
 unfold SS;simp only[h1,if_false];refine Prod.ext ?_ ?_
 ·cases lo with
  |none=>rfl
  |some v=>exact BU v n 0
 ·cases hi with
  |none=>rfl
  |some v=>exact BU v n n
theorem B2(i j:Nat):R1 (i:Int) (j:Int) 1=j-i:=by
 unfold R1;have h1:(1:Int)>0:=by omega
 simp only[h1,if_true,Int.ediv_one];split <;> omega
variable{o:Option Int}{v:Value}
theorem sN{Q:Option Int->Shared->Prop}(p:IsPart v o)(h:Q o s):wpAny (model prog w) A (Builtin.Slice.slicePartIndex v) Q E s:=by
 cases p with
 |none=>exact slicePart_none h
 |int i t=>exact slicePart_int h
variable{hi lo:Option Int}{n:Nat}{sl:Addr}{vl vu:Value}
theorem sliceApplied_gen{Q:Int×Int×Nat->Shared->Prop}(hs:s.heap.IsSliceOf sl vl vu .none)(pl:IsPart vl lo)(pu:IsPart vu hi)(h:Q (((sIx n 0 lo:Nat):Int),1,sIx n n hi-sIx n 0 lo) s):wpAny (model prog w) A (Builtin.Slice.sliceApplied (.ref sl) (pure (n:Int))) Q E s:=by
 obtain⟨os,j5,qi,j4⟩:=id hs;unfold Builtin.Slice.sliceApplied Builtin.Slice.sliceFields;refine Pi (Pi (S5 j5 j4 (x:=vl) rfl (Pi (S5 j5 j4 (x:=vu) rfl (Pi (S5 j5 j4 (x:=.none) rfl (Px ?_)))))));refine Pi (slicePart_none ?_)
 show wpAny _ _ (if((1:Int) == 0)=true then _ else _) _ _ s
 rw[if_neg (by decide)];refine Pi (sN pl (Pi (sN pu (Pi (Px ?_)))))
 show wpAny _ _ (match SS lo hi 1 (n:Int) with|(lo,hi)=>pure (lo,(1:Int),R1 lo hi 1)) _ _ s
 rw[B1 lo hi n]
 show wpAny _ _ (pure (((sIx n 0 lo:Nat):Int),(1:Int),R1 ((sIx n 0 lo:Nat):Int) ((sIx n n hi:Nat):Int) 1)) _ _ s
 rw[B2];exact Px h
theorem Ef(xs:Array Value)(i k:Nat):((Qi k).filterMap λ(m:Nat)=>xs[((i:Int)+(m:Int)*1).toNat]?).toArray=((xs.toList.drop i).take k).toArray:=by
 have e:(λ(m:Nat)=>xs[((i:Int)+(m:Int)*1).toNat]?)=λm=>xs[i+m]?:=by
  funext m
  have:((i:Int)+(m:Int)*1).toNat=i+m:=by omega
  rw[this]
 rw[e];have:=pick_run xs i k;rw[List.filterMap_map]at this;have e2:((λx=>xs[x]?)∘λx=>i+x)=λm=>xs[i+m]?:=rfl;rw[e2]at this;rw[this]
variable{items:Array Value}
theorem getItem_tuple_cut{t:Addr}(ht:IsTup s.heap t items)(hs:s.heap.IsSliceOf sl vl vu .none)(pl:IsPart vl lo)(pu:IsPart vu hi)(hw:¬ (sIx items.size 0 lo=0/\sIx items.size items.size hi=items.size))(h:Q (.ref s.heap.objs.size) { s with heap:=s.heap.push { cls:=.type "tuple",data:=.seq ((items.toList.drop (sIx items.size 0 lo)).take (sIx items.size items.size hi-sIx items.size 0 lo)).toArray } })(hsz:items.size<=PP):wpAny (model prog w) A (getItem (.ref t) (.ref sl)) Q E s:=by
 have dz:sizeOk (.seq ((items.toList.drop (sIx items.size 0 lo)).take (sIx items.size items.size hi-sIx items.size 0 lo)).toArray):=by
  show((items.toList.drop (sIx items.size 0 lo)).take (sIx items.size items.size hi-sIx items.size 0 lo)).toArray.size<=PP
  rw[PJ,QK,List.length_drop,Sg];omega
 have hj:sIx items.size items.size hi<=items.size:=Jw _ _ (PD _) hi;obtain⟨os,j5,qi,j4⟩:=id hs;have q0:s.TypeIs (.ref sl) "slice" := ⟨os,j5,qi⟩;unfold getItem
 try with_reducible refine QZ ?_
 first|refine Pi (Px ?_)|skip
 refine Pi (wpAny_sequenceKey ht.typeIs (by decide) ?_);refine Pi (QH (name:=Pz "__getitem__") ht.typeIs QD
  (Qy QD ht.typeIs entry_tuple_getitem ?_ (args_tuple_getitem _ _)))
 show wpAny _ _ (SL (.ref t) >>= _) _ _ s
 refine Pi (tupleItemsOf_ ht ?_);refine Pi (wpAny_typeOf q0 ?_);rw[if_pos (by decide)];refine Pi (sliceApplied_gen hs pl pu ?_);have l7:¬ ((((sIx items.size 0 lo:Nat):Int) == 0&&(1:Int) == 1&&(sIx items.size items.size hi-sIx items.size 0 lo) == items.size)=true):=by
  intro q;rw[PZ,PZ]at q;have q1:((sIx items.size 0 lo:Nat):Int)=0:=eq_of_beq q.1.1;have q2:sIx items.size items.size hi-sIx items.size 0 lo=items.size:=eq_of_beq q.2;exact hw ⟨by omega,by omega⟩
 show wpAny _ _ (if(((sIx items.size 0 lo:Nat):Int) == 0&&(1:Int) == 1&&(sIx items.size items.size hi-sIx items.size 0 lo) == items.size)=true then _ else _) _ _ s
 rw[if_neg l7,Ef]
 first
  |exact Pi (m:=R4 _) (Qm (Px ⟨_,rfl,Px h⟩) dz)
  |exact Pi (m:=R4 _) (Qm (Pi (Px (Px ⟨_,rfl,Px h⟩))) dz)
  |exact Pi (Pi (m:=R4 _) (Qm (Px (Px ⟨_,rfl,Px h⟩)) dz))
  |exact Pi (Pi (m:=R4 _) (Qm (Px ⟨_,rfl,Px h⟩) dz))
end HT
namespace L2
open PySem PySem.Spec PyProof.Rows
abbrev TO:=St->Hp->(Option Int->Hp->Prop)->Prop
def PO(X:Cx)(e:Option Expr)(t:TO):Prop:=
 ∀(pins:List (Addr×Obj))(s:Shared)(σ:St)(H:Hp)(Q:Option Int->Hp->Prop),Inv X pins σ H s->t σ H Q->
  wpAny (model X.prog X.w) X.A (evalPart e X.env) (λu s'=>∃o H',Inv X pins σ H' s'/\IsPart u o/\Q o H') X.xe s
def GN:TO:=λ_ H Q=>Q none H
variable{ns:List Int}
theorem intsAre_of:∀{us:List Value},aI (ns.map V.int) us->IntsAre us ns:=by
 induction ns with
 |nil=>intro us r;rw[List.map_nil]at r;cases r;exact .nil
 |cons n ns ih=>
  intro us r;rw[P0]at r;cases r with
  |cons r1 r2=>
   obtain⟨t,e⟩:=r1;subst e;exact .cons n t (ih r2)
variable{X:Cx}{hi lo:Option Expr}{r r':V->Option Int->Option Int->Hp->VK->Prop}{e:Expr}{p2 pos:Pos}{te:TE}{us:List Value}
section
variable{tl th:TO}
theorem GO:PO X none GN:=by
 intro pins s σ H Q I h;rw[evalPart_none];exact Px ⟨none,H,I,.none,h⟩
def SlR(X:Cx)(r:V->Option Int->Option Int->Hp->VK->Prop):Prop:=
 ∀(pins:List (Addr×Obj))(s:Shared)(σ:St)(H:Hp)(x:V)(v vl vu:Value)(lo hi:Option Int)(sl:Addr)(Q:VK),Inv X pins σ H s->RelV x v->s.heap.IsSliceOf sl vl vu .none->IsPart vl lo->IsPart vu hi->r x lo hi H Q->
  ∃T id,typeLookup (.type T) "__getitem__" = pure (some (.builtin id))/\s.TypeIs v T/\wpAny (model X.prog X.w) X.A (getItem v (.ref sl)) (EP X pins σ Q) X.xe s
theorem SlR.or(h:SlR X r)(h':SlR X r'):SlR X (λx lo hi H Q=>r x lo hi H Q\/r' x lo hi H Q):=by
 intro pins s σ H x v vl vu lo hi sl Q I rx hs pl pu q;rcases q with q|q
 ·exact h pins s σ H x v vl vu lo hi sl Q I rx hs pl pu q
 ·exact h' pins s σ H x v vl vu lo hi sl Q I rx hs pl pu q
def tSl(r:V->Option Int->Option Int->Hp->VK->Prop)(te:TE)(tl th:TO):TE:=λσ H Q=>te σ H λx H1=>tl σ H1 λl H2=>th σ H2 λu H3=>r x l u H3 Q
theorem Eg(hr:SlR X r)(he:PE X e te)(hl:PO X lo tl)(hu:PO X hi th):PE X (.Subscript e (.Slice lo hi none p2) pos) (tSl r te tl th):=by
 intro pins s σ H Q I h;refine Subscript_ (thn (he pins s σ H _ I h) λv s1 hz=>?_);obtain⟨x,H1,I1,r1,q1⟩:=hz;refine wpAny_Slice (thn (hl pins s1 σ H1 _ I1 q1) λvl s2 ⟨l,H2,I2,pl,q2⟩=>thn (hu pins s2 σ H2 _ I2 q2) λvu s3 hz=>?_);obtain⟨u,H3,I3,pu,q3⟩:=hz;rw[evalPart_none];refine Px ?_;have I4:Inv X pins σ H3 { s3 with heap:=s3.heap.push { cls:=.type "slice",data:=.fields #[vl,vu,.none] } }:=I3.kept (t':=s3.toks) λb ob q=>PB _ q;obtain⟨T,id,hT,ht,hg⟩:=hr pins { s3 with heap:=s3.heap.push { cls:=.type "slice",data:=.fields #[vl,vu,.none] } } σ H3 x v vl vu l u s3.heap.objs.size Q I4 r1 (Heap.IsSliceOf.new ..) pl pu q3
 show wpAny (model X.prog X.w) X.A (subscriptTail e (.Slice lo hi none p2) v (.ref s3.heap.objs.size)) (EP X pins σ Q) X.xe { s3 with heap:=s3.heap.push { cls:=.type "slice",data:=.fields #[vl,vu,.none] } }
 exact tail_any (ops:=[.ref s3.heap.objs.size,v]) ht hT hg (by with_unfolding_all rfl)
def A5(xs:List V)(lo hi:Option Int):List V:=(xs.drop (HT.sIx xs.length 0 lo)).take (HT.sIx xs.length xs.length hi-HT.sIx xs.length 0 lo)
theorem qZ(xs:List V)(lo hi:Option Int):(A5 xs lo hi).length<=xs.length:=by
 unfold A5;rw[QK,List.length_drop];omega
def Lp(K:Py):V->Option Int->Option Int->Hp->VK->Prop:=λx lo hi H Q=>∃a xs,x=.ref a/\SqT K H a xs/\
 ¬ (HT.sIx xs.length 0 lo=0/\HT.sIx xs.length xs.length hi=xs.length)/\∀p,H p=none->Q (.ref p) (upd H p (.tup (A5 xs lo hi)))
theorem Jx:SlR X (Lp X.K):=by
 intro pins s σ H x v vl vu lo hi sl Q I rx hs pl pu h;obtain⟨a,xs,rfl,hx,hw,q⟩:=h;cases rx
 obtain⟨its,r,ht,hz⟩:=I.tuple hx;have hlen:its.toArray.size=xs.length:=by rw[PJ];exact r.length.symm
 refine⟨"tuple",_,QD.lookup,ht.typeIs,?_⟩;refine HT.getItem_tuple_cut ht hs pl pu (by rw[hlen];exact hw) ?_ (by rw[hlen];exact hz);rw[hlen];refine⟨.ref s.heap.objs.size,_,I.laid (t':=s.toks) (o:=.tup (A5 xs lo hi)) (λb ob q=>PB _ q) (PD _) ?_,rfl,q _ (I.hok.fresh (PD _))⟩;exact⟨Qb (qZ xs lo hi) hz,_,(r.drop (HT.sIx xs.length 0 lo)).take (HT.sIx xs.length xs.length hi-HT.sIx xs.length 0 lo),pL.new _ _⟩
def IP(K:Py):R2:=λx y H Q=>∃a b xs ys,x=.ref a/\y=.ref b/\SqT K H a xs/\SqT K H b ys/\xs≠[]/\xs.length+ys.length<=PP/\
 (ys=[]->Q (.ref a) H)/\(ys≠[]->∀p,H p=none->Q (.ref p) (upd H p (.tup (xs++ys))))
theorem aI.nil_iff{xs:List V}(r:aI xs us):us=[]↔xs=[]:=by
 cases r with
 |nil=>simp
 |cons _ _=>simp
theorem GP:OpR X (QW .Add) (IP X.K):=by
 intro pins s σ H x y v u Q I rx ry h;obtain⟨a,b,xs,ys,rfl,rfl,ha,hb,hx,hz,q1,q2⟩:=h;cases rx
 cases ry
 obtain⟨its,r1,p1,_⟩:=I.tuple ha;obtain⟨cx,r2,p2,_⟩:=I.tuple hb;refine HT.cat_tup p1 p2 (λz=>hx (r1.nil_iff.mp z)) (λz=>⟨.ref a,H,I,rfl,q1 (r2.nil_iff.mp z)⟩) (λz=>?_) (by rw[<-r1.length,<-r2.length];exact hz);refine⟨.ref s.heap.objs.size,_,I.laid (t':=s.toks) (o:=.tup (xs++ys)) (λb ob q=>PB _ q) (PD _) ?_,rfl,q2 (λw=>z (r2.nil_iff.mpr w)) _ (I.hok.fresh (PD _))⟩;exact⟨by rw[QU];exact hz,_,r1.append r2,pL.new _ _⟩
end
def ixN(n:Nat)(i:Int):Option Nat:=if 0<=i then(if i<n then some i.toNat else none) else if -(n:Int)<=i then some (i+n).toNat else none
def atI{α:Type}(xs:List α)(i:Int):Option α:=(ixN xs.length i).bind λj=>xs[j]?
variable{j n:Nat}
theorem BV{i:Int}(h:ixN n i=some j):seqIndex? i n=some j/\j<n/\-(n:Int)<=i/\i<n:=by
 unfold ixN at h
 by_cases h0:0<=i
 ·rw[if_pos h0]at h
  by_cases h1:i<n
  ·rw[if_pos h1]at h;have e:i.toNat=j:=P4 h;exact⟨by rw[seqIndex_of h0 h1,e],by omega,by omega,h1⟩
  ·rw[if_neg h1]at h;cases h
 ·rw[if_neg h0]at h
  by_cases h1:-(n:Int)<=i
  ·rw[if_pos h1]at h;have e:(i+n).toNat=j:=P4 h;exact⟨by rw[seqIndex_neg (by omega) h1,e],by omega,h1,by omega⟩
  ·rw[if_neg h1]at h;cases h
theorem xT{α:Type}{xs:List α}{i:Int}{v:α}(h:atI xs i=some v):∃j,seqIndex? i xs.length=some j/\xs[j]?=some v/\j<xs.length/\-(xs.length:Int)<=i/\i<xs.length:=by
 unfold atI at h;cases e:ixN xs.length i with
 |none=>rw[e]at h;cases h
 |some j=>
  rw[e]at h;obtain⟨h1,h2,h3,h4⟩:=BV e;exact⟨j,h1,h,h2,h3,h4⟩
def BW(b:Expr):Prop:=∀o i,subscripted b false o i=operate [o,i] (getItem o i)
def IxR(X:Cx)(r:R2):Prop:=
 ∀(value slice:Expr)(pins:List (Addr×Obj))(s:Shared)(σ:St)(H:Hp)(x y:V)(v u:Value)(Q:VK),Inv X pins σ H s->RelV x v->RelV y u->r x y H Q->
  subscripted slice false v u=operate [v,u] (getItem v u)->wpAny (model X.prog X.w) X.A (subscriptTail value slice v u) (EP X pins σ Q) X.xe s
def MtR(X:Cx)(id:String)(r:V->List V->Hp->VK->Prop):Prop:=
 ∀(pins:List (Addr×Obj))(s:Shared)(σ:St)(H:Hp)(x:V)(xs:List V)(v:Value)(us:List Value)(Q:VK),Inv X pins σ H s->RelV x v->aI xs us->r x xs H Q->
  wpAny (model X.prog X.w) X.A (call (.builtin id) (v::us)) (EP X pins σ Q) X.xe s
variable{ta:TE}{H:Hp}{its its':List Value}{pins:List (Addr×Obj)}{s:Shared}{σ:St}{A:Around}{u:Value}{y:V}{T:String}{ae apos:Pos}{es:List Expr}{name:Str}
section
variable{a b:Expr}{tb:TE}
theorem IxR.or{r r':R2}(h:IxR X r)(h':IxR X r'):IxR X (λx y H Q=>r x y H Q\/r' x y H Q):=by
 intro value slice pins s σ H x y v u Q I rx ry q hs;rcases q with q|q
 ·exact h value slice pins s σ H x y v u Q I rx ry q hs
 ·exact h' value slice pins s σ H x y v u Q I rx ry q hs
theorem Lq{r:R2}(hr:IxR X r)(ha:PE X a ta)(hb:PE X b tb)(hs:BW b):PE X (.Subscript a b pos) (tOp r ta tb):=by
 intro pins s σ H Q I h;exact Subscript_ (Jj ha hb I h λv u s2 x y H2 I2 rx ry q=>hr a b pins s2 σ H2 x y v u Q I2 rx ry q (hs _ _))
def NR(K:Py):R2:=λx y H Q=>∃p xs i v,x=.ref p/\y=.int i/\SqL K H p xs/\atI xs i=some v/\Q v H
def NS(K:Py):R2:=λx y H Q=>∃p xs i v,x=.ref p/\y=.int i/\SqT K H p xs/\atI xs i=some v/\Q v H
def NT:R2:=λx y H Q=>∃z i c,x=.str z/\y=.int i/\z.length<=PP/\atI z.cps.toList i=some c/\Q (.str ⟨#[c]⟩) H
theorem GQ:IxR X (NR X.K):=by
 intro value slice pins s σ H x y v u Q I rx ry h hs;obtain⟨p,xs,i,z,rfl,rfl,hq,he,q⟩:=h;cases rx
 obtain⟨t,rfl⟩:=ry;obtain⟨its,r,pl,hz⟩:=I.list hq;obtain⟨j,h1,h2,h3,h4,h5⟩:=xT he;obtain⟨w,ew,cq⟩:=r.get h2;have hl:=r.length;have hn:=mB;have fin:EP X pins σ Q w s:=⟨z,H,I,cq,q⟩
 by_cases h0:0<=i
 ·have hj:i.toNat=j:=by
   rw[seqIndex_of h0 h5]at h1;exact P4 h1
  exact item_listR pl.isList h0 (by omega) (by rw[hj];simpa using ew) fin hs
 ·have hj:(i+(its.toArray.size:Int)).toNat=j:=by
   rw[seqIndex_neg (by omega) h4]at h1;rw[PJ,<-hl];exact P4 h1
  exact subscriptTail_builtinR (x:=w) pl.isList.typeIs slot_list_getitem.lookup
   (wpAny_getItem_list_neg (Q:=λr s'=>r=w/\EP X pins σ Q r s') pl.isList (by omega) (by rw[PJ] <;> omega) (by omega) (by rw[hj];simpa using ew) ⟨rfl,fin⟩) hs
theorem Jy:IxR X (NS X.K):=by
 intro value slice pins s σ H x y v u Q I rx ry h hs;obtain⟨p,xs,i,z,rfl,rfl,hq,he,q⟩:=h;cases rx
 obtain⟨t,rfl⟩:=ry;obtain⟨its,r,pl,hz⟩:=I.tuple hq;obtain⟨j,h1,h2,h3,h4,h5⟩:=xT he;obtain⟨w,ew,cq⟩:=r.get h2;have hl:=r.length;have hn:=mB;have fin:EP X pins σ Q w s:=⟨z,H,I,cq,q⟩;exact subscriptTail_builtinR (x:=w) pl.typeIs slot_tuple_getitem.lookup
  (getItem_tuple (j:=j) (Q:=λr s'=>r=w/\EP X pins σ Q r s') pl (by omega) (by omega) (by rw[PJ,<-hl];exact h1) (by simpa using ew) ⟨rfl,fin⟩) hs
theorem Jz:IxR X NT:=by
 intro value slice pins s σ H x y v u Q I rx ry h hs;obtain⟨z,i,c,rfl,rfl,hz,he,q⟩:=h;obtain⟨t,rfl⟩:=rx;obtain⟨t',rfl⟩:=ry;obtain⟨j,h1,h2,h3,h4,h5⟩:=xT he;have hl:z.cps.toList.length=z.length:=by simp[Str.length]
 rw[hl]at h1 h4 h5;have hn:=mB;exact tail_any (typeIs_str s z t) slot_str_getitem.lookup (getItem_str (c:=c) (by
  have e1:decide (i < -(2 ^ 63:Int))=false:=decide_eq_false (by omega);have e2:decide (i >= 2 ^ 63)=false:=decide_eq_false (by omega);rw[e1,e2,Bool.or_false]) (by rw[h1];simpa using h2) ⟨.str ⟨#[c]⟩,H,I.tok _,⟨_,rfl⟩,q⟩) hs
theorem B3(its:List Value)(n j:Nat)(u:Value):Qj (·.setIfInBounds j u) { cls:=.type "list",data:=.seq its.toArray n }={ cls:=.type "list",data:=.seq (its.set j u).toArray n }:=by
 simp[Qj]
theorem Inv.lst{pins:List (Addr×Obj)}{σ:St}{H:Hp}{s:Shared}{p:Addr}{xs:List V}(I:Inv X pins σ H s)(h:H p=some (.lst xs)):
  ∃(its:List Value)(n:Nat),aI xs its/\s.heap.get? p=some { cls:=.type "list",data:=.seq its.toArray n }/\xs.length<=PP:=by
 obtain⟨z,its,n,r,e⟩:=I.hok p _ h;exact⟨its,n,r,e,z⟩
theorem Inv.lstUpd{p:Addr}{xs ys:List V}{n':Nat}{f:Obj->Obj}(I:Inv X pins σ H s)(h:H p=some (.lst xs))(ho:s.heap.get? p=some { cls:=.type "list",data:=.seq its.toArray n })(hf:f { cls:=.type "list",data:=.seq its.toArray n }={ cls:=.type "list",data:=.seq its'.toArray n' })(r:aI ys its')(hz:ys.length<=PP)(t:Nat):
  Inv X pins σ (upd H p (.lst ys)) { s with heap:=s.heap.update p f,toks:=t }:=by
 have e:(s.heap.update p f).get? p=some { cls:=.type "list",data:=.seq its'.toArray n' }:=by
  rw[QX f ho (by rw[hf] <;> rfl),hf]
 refine I.write (x:=p) (e:=p) (by rw[h];trivial) (.inl rfl) (λb u hb q=>(So _ _ (QS hb)).trans q) ⟨_,e⟩ ?_;exact⟨hz,its',n',r,e⟩
def Lr:V->V->V->Hp->(Hp->Prop)->Prop:=λo i v H Q=>∃p xs k j,o=.ref p/\i=.int k/\H p=some (.lst xs)/\ixN xs.length k=some j/\Q (upd H p (.lst (xs.set j v)))
theorem set_list:NH X Lr:=by
 intro pins s σ H o i v ov iv u Q I ro ri rv h;obtain⟨p,xs,k,j,rfl,rfl,hp,hj,q⟩:=h;cases ro
 obtain⟨t,rfl⟩:=ri;obtain⟨its,n,r,ho,hz⟩:=I.lst hp;obtain⟨h1,h2,h3,h4⟩:=BV hj;have hl:=r.length;have hn:=mB;have I':Inv X pins σ (upd H p (.lst (xs.set j v))) { s with heap:=s.heap.update p (Qj (·.setIfInBounds j u)) }:=
  I.lstUpd hp ho (B3 its n j u) (r.set rv j) (by rw[Qu];exact hz) s.toks
 by_cases h0:0<=k
 ·have hk:k.toNat=j:=by
   rw[seqIndex_of h0 h4]at h1;exact P4 h1
  exact PySem.W.ki_setAt ho h0 (by omega) (by rw[PJ,<-hl];exact h4) (by rw[hk];exact⟨_,I',q⟩)
 ·have hk:(k+(its.toArray.size:Int)).toNat=j:=by
   rw[seqIndex_neg (by omega) h3]at h1;rw[PJ,<-hl];exact P4 h1
  exact PySem.W.ki_setBack ho (by omega) (by rw[PJ,<-hl];exact h3) (by omega) (by rw[hk];exact⟨_,I',q⟩)
theorem xV(lo hi:Option Int)(n:Nat):(sliceBounds lo hi none n).1=((HT.sIx n 0 lo:Nat):Int)/\(sliceBounds lo hi none n).2.1=((HT.sIx n n hi:Nat):Int)/\(sliceBounds lo hi none n).2.2=1:=by
 refine⟨?_,?_,rfl⟩
 ·cases lo with
  |none=>simp[sliceBounds,HT.sIx]
  |some i=>
   simp only[sliceBounds,HT.sIx,Option.getD_none,show(1:Int)>0 by decide,if_true]
   by_cases h:i<0
   ·simp only[h,if_true] <;> omega
   ·simp only[h,if_false] <;> omega
 ·cases hi with
  |none=>simp[sliceBounds,HT.sIx]
  |some i=>
   simp only[sliceBounds,HT.sIx,Option.getD_none,show(1:Int)>0 by decide,if_true]
   by_cases h:i<0
   ·simp only[h,if_true] <;> omega
   ·simp only[h,if_false] <;> omega
theorem vC(its:List Value)(lo hi:Option Int):slicePick its.toArray lo hi none=((its.drop (HT.sIx its.length 0 lo)).take (HT.sIx its.length its.length hi-HT.sIx its.length 0 lo)).toArray:=by
 obtain⟨h1,h2,h3⟩:=xV lo hi its.toArray.size;unfold slicePick;rw[h1,h2,h3];simp only[sliceRange_one,pick_run,PJ] <;> rfl
def Ls(K:Py):V->Option Int->Option Int->Hp->VK->Prop:=λx lo hi H Q=>∃a xs,x=.ref a/\SqL K H a xs/\∀p,H p=none->Q (.ref p) (upd H p (.lst (A5 xs lo hi)))
theorem GR:SlR X (Ls X.K):=by
 intro pins s σ H x v vl vu lo hi sl Q I rx hs pl pu h;obtain⟨a,xs,rfl,hx,q⟩:=h;cases rx
 obtain⟨its,r,ht,hz⟩:=I.list hx;have hlen:=r.length;refine⟨"list",_,slot_list_getitem.lookup,ht.isList.typeIs,?_⟩;refine wpAny_getItem_list_slice ht.isList hs pl pu .none (by simp) ?_ (by rw[PJ] <;> omega);rw[vC,<-hlen];refine⟨.ref s.heap.objs.size,_,I.laid (t':=s.toks) (o:=.lst (A5 xs lo hi)) (λb ob q=>PB _ q) (PD _) ?_,rfl,q _ (I.hok.fresh (PD _))⟩;exact⟨Qb (qZ xs lo hi) hz,_,0,(r.drop (HT.sIx xs.length 0 lo)).take (HT.sIx xs.length xs.length hi-HT.sIx xs.length 0 lo),PR _ rfl⟩
def rA:V->Bool
 |.non=>true
 |.bl _=>true
 |.int _=>true
 |.str _=>true
 |_=>false
def eqV:V->V->Bool
 |.non,.non=>true
 |.bl a,.bl b=>a == b
 |.bl a,.int b=>(if a then 1 else 0) == b
 |.int a,.bl b=>a == (if b then 1 else 0)
 |.int a,.int b=>a == b
 |.str a,.str b=>a == b
 |_,_=>false
theorem JA{x:V}{v:Value}(ry:RelV y u)(rx:RelV x v)(fy:rA y=true)(fx:rA x=true):SeqAt.EqAt A s u v (eqV y x):=by
 cases y with
 |non=>
  cases ry
  cases x with
  |non=>cases rx;exact SeqAt.EqAt.same _
  |bl b=>cases rx;exact SeqAt.EqAt.none_bool b
  |int b=>obtain⟨t,rfl⟩:=rx;exact SeqAt.EqAt.none_int b t
  |str b=>obtain⟨t,rfl⟩:=rx;exact SeqAt.EqAt.none_str b t
  |_=>exact absurd (show false=true from fx) PY
 |bl a=>
  cases ry
  cases x with
  |non=>cases rx;exact SeqAt.EqAt.bool_none a
  |bl b=>cases rx;exact SeqAt.EqAt.bool_bool a b
  |int b=>obtain⟨t,rfl⟩:=rx;exact SeqAt.EqAt.bool_int a b t
  |str b=>obtain⟨t,rfl⟩:=rx;exact SeqAt.EqAt.bool_str a b t
  |_=>exact absurd (show false=true from fx) PY
 |int a=>
  obtain⟨t',rfl⟩:=ry;cases x with
  |non=>cases rx;exact SeqAt.EqAt.int_none a t'
  |bl b=>cases rx;exact SeqAt.EqAt.int_bool a t' b
  |int b=>obtain⟨t,rfl⟩:=rx;exact SeqAt.EqAt.int_int a t' b t
  |str b=>obtain⟨t,rfl⟩:=rx;exact SeqAt.EqAt.int_str a t' b t
  |_=>exact absurd (show false=true from fx) PY
 |str a=>
  obtain⟨t',rfl⟩:=ry;cases x with
  |non=>cases rx;exact SeqAt.EqAt.str_none a t'
  |bl b=>cases rx;exact SeqAt.EqAt.str_bool a t' b
  |int b=>obtain⟨t,rfl⟩:=rx;exact SeqAt.EqAt.str_int a t' b t
  |str b=>obtain⟨t,rfl⟩:=rx;exact SeqAt.EqAt.str_str a t' b t
  |_=>exact absurd (show false=true from fx) PY
 |_=>exact absurd (show false=true from fy) PY
def eqU(x:V)(u:Value):Bool:=match u with
 |.none=>eqV .non x
 |.bool b=>eqV (.bl b) x
 |.int i _=>eqV (.int i) x
 |.str z _=>eqV (.str z) x
 |_=>false
theorem Eh{x:V}(r:RelV y u)(f:rA y=true):eqU x u=eqV y x:=by
 cases y with
 |non=>cases r;rfl
 |bl b=>cases r;rfl
 |int i=>obtain⟨t,rfl⟩:=r;rfl
 |str z=>obtain⟨t,rfl⟩:=r;rfl
 |_=>exact absurd (show false=true from f) PY
theorem nQ{x:V}:∀{xs:List V}{us:List Value},aI xs us->xs.all rA=true->us.any (eqU x)=xs.any λy=>eqV y x
 |_,_,.nil,_=>rfl
 |y::xs,u::us,.cons r t,f=>by
  rw[Sj,PZ]at f;rw[RI,RI,Eh r f.1,nQ t f.2]
theorem jX{A:Around}{s:Shared}{x:V}{v:Value}(rx:RelV x v)(fx:rA x=true):∀{xs:List V}{us:List Value},aI xs us->xs.all rA=true->∀u∈us,SeqAt.EqAt A s u v (eqU x u)
 |_,_,.nil,_=>λu hu=>by cases hu
 |y::xs,u::us,.cons r t,f=>λu' hu=>by
  rw[Sj,PZ]at f;rcases P5.mp hu with rfl|hu
  ·rw[Eh r f.1];exact JA r rx f.1 fx
  ·exact jX rx fx t f.2 u' hu
def inV(x:V)(xs:List V):Bool:=xs.any λy=>eqV y x
def rIn(K:Py)(neg:Bool):R2:=λx y H Q=>∃p xs,y=.ref p/\(SqL K H p xs\/SqT K H p xs)/\rA x=true/\xs.all rA=true/\Q (.bl (if neg then !inV x xs else inV x xs)) H
theorem CP:OpR X (Qn .In) (rIn X.K false):=by
 intro pins s σ H x y v u Q I rx ry h;obtain⟨p,xs,rfl,hq,fx,fs,q⟩:=h;cases ry
 rcases hq with hq|hq
 ·obtain⟨its,r,pl,hz⟩:=I.list hq;refine SeqAt.in_listAt (eqU x) pl.isList (λw hw=>jX rx fx r fs w (by simpa using hw)) ⟨.bl _,H,I,rfl,?_⟩
  rw[show its.toArray.any (eqU x)=its.any (eqU x) by simp,nQ r fs];exact q
 ·obtain⟨its,r,pl,hz⟩:=I.tuple hq;refine SeqAt.in_tupleAt (eqU x) pl (λw hw=>jX rx fx r fs w (by simpa using hw)) ⟨.bl _,H,I,rfl,?_⟩
  rw[show its.toArray.any (eqU x)=its.any (eqU x) by simp,nQ r fs];exact q
theorem xW:OpR X (Qn .NotIn) (rIn X.K true):=by
 intro pins s σ H x y v u Q I rx ry h;obtain⟨p,xs,rfl,hq,fx,fs,q⟩:=h;cases ry
 rcases hq with hq|hq
 ·obtain⟨its,r,pl,hz⟩:=I.list hq;refine SeqAt.notIn_listAt (eqU x) pl.isList (λw hw=>jX rx fx r fs w (by simpa using hw)) ⟨.bl _,H,I,rfl,?_⟩
  rw[show its.toArray.any (eqU x)=its.any (eqU x) by simp,nQ r fs];exact q
 ·obtain⟨its,r,pl,hz⟩:=I.tuple hq;refine SeqAt.notIn_tupleAt (eqU x) pl (λw hw=>jX rx fx r fs w (by simpa using hw)) ⟨.bl _,H,I,rfl,?_⟩
  rw[show its.toArray.any (eqU x)=its.any (eqU x) by simp,nQ r fs];exact q
theorem xX:bS X (.builtin "len") (λxs H Q=>∃p ys,xs=[.ref p]/\(SqL X.K H p ys\/SqT X.K H p ys)/\Q (.int ys.length) H):=by
 intro pins s σ H xs us Q I r h;obtain⟨p,ys,rfl,hq,q⟩:=h;obtain⟨u,rfl,rx⟩:=vals1 r;cases rx
 have hn:=mB;rcases hq with hq|hq
 ·obtain⟨its,r',pl,hz⟩:=I.list hq;have hlen:=r'.length;exact Calls.call_len_list pl.isList (by simp only[PJ] <;> omega) ⟨.int ys.length,H,I.tok _,⟨s.toks+1,by rw[PJ,hlen]⟩,q⟩
 ·obtain⟨its,r',pl,hz⟩:=I.tuple hq;have hlen:=r'.length;exact len_tuple pl (by simp only[PJ] <;> omega) ⟨.int ys.length,H,I.tok _,⟨s.toks+1,by rw[PJ,hlen]⟩,q⟩
theorem bS.or{f:Value}{r r':List V->Hp->VK->Prop}(h:bS X f r)(h':bS X f r'):bS X f (λxs H Q=>r xs H Q\/r' xs H Q):=by
 intro pins s σ H xs us Q I rs q;rcases q with q|q
 ·exact h pins s σ H xs us Q I rs q
 ·exact h' pins s σ H xs us Q I rs q
theorem xY:bS X (.type "list") (λxs H Q=>∃p ys,xs=[.ref p]/\(SqL X.K H p ys\/SqT X.K H p ys)/\∀l,H l=none->Q (.ref l) (upd H l (.lst ys))):=by
 intro pins s σ H xs us Q I r h;obtain⟨p,ys,rfl,hq,q⟩:=h;obtain⟨u,rfl,rx⟩:=vals1 r;cases rx
 have fin:∀(its:List Value),aI ys its->ys.length<=PP->∀(h':Heap)(c':Nat),(∀b o',s.heap.get? b=some o'->h'.get? b=some o')->
   h'.get? s.heap.objs.size=some { cls:=.type "list",dict:=none,data:=.seq its.toArray c',slots:=#[] }->EP X pins σ Q (.ref s.heap.objs.size) { s with heap:=h' }:=λits r' hz h' c' kp e=>
  ⟨.ref s.heap.objs.size,_,I.laid (t':=s.toks) kp (PD _) (show bC X.prog X.w _ h' _ (.lst ys) from⟨hz,its,c',r',e⟩),rfl,q _ (I.hok.fresh (PD _))⟩
 rcases hq with hq|hq
 ·obtain⟨its,r',pl,hz⟩:=I.list hq;have hlen:=r'.length;obtain⟨o,ho,hc,n,hd⟩:=pl.isList;exact call_list_seq p (.inl rfl) ho hc hd (λh' c' kp e=>fin its r' hz h' c' kp e) (by simp only[PJ] <;> omega)
 ·obtain⟨its,r',pl,hz⟩:=I.tuple hq;have hlen:=r'.length;obtain⟨o,ho,hc,n,hd⟩:=pl;exact call_list_seq p (.inr rfl) ho hc hd (λh' c' kp e=>fin its r' hz h' c' kp e) (by simp only[PJ] <;> omega)
theorem vD:bS X (.type "tuple") (λxs H Q=>∃p ys,xs=[.ref p]/\((SqL X.K H p ys/\∀l,H l=none->Q (.ref l) (upd H l (.tup ys)))\/(SqT X.K H p ys/\Q (.ref p) H))):=by
 intro pins s σ H xs us Q I r h;obtain⟨p,ys,rfl,h⟩:=h;obtain⟨u,rfl,rx⟩:=vals1 r;cases rx
 rcases h with⟨hq,q⟩|⟨hq,q⟩
 ·obtain⟨its,r',pl,hz⟩:=I.list hq;have hlen:=r'.length;refine call_tuple_list pl.isList (λh' kp=>?_) (by simp only[PJ] <;> omega);have I1:Inv X pins σ H { s with heap:=h' }:=I.kept (t':=s.toks) kp;have I2:Inv X pins σ (upd H h'.objs.size (.tup ys)) { s with heap:=h'.push { cls:=.type "tuple",data:=.seq its.toArray } }:=
   I1.laid (t':=s.toks) (λb o e=>PB _ e) (PD _) (show bC X.prog X.w _ _ _ (.tup ys) from⟨hz,its,r',pL.new _ _⟩)
  exact⟨.ref h'.objs.size,_,I2,rfl,q _ (I1.hok.fresh (PD _))⟩
 ·obtain⟨its,r',pl,hz⟩:=I.tuple hq;exact call_tuple_same pl ⟨.ref p,H,I,rfl,q⟩
def tyV(K:Py)(T:String)(x:V)(H:Hp):Prop:=match x with
 |.str _=>T="str"
 |.int _=>T="int"
 | .ref p=>(T="list" /\ ∃ xs,SqL K H p xs)\/(T="tuple" /\ ∃ o,K.lookup p=some o/\o.cls=.type "tuple" /\ o.dict=none)\/
   (T="dict" /\ ((∃kvs,H p=some (.dK kvs))\/∃kvs,H p=some (.dT kvs)))\/(T="set" /\ ∃S n,H p=some (.set S n))
 |_=>False
theorem JB{x:V}{v:Value}(I:Inv X pins σ H s)(r:RelV x v)(ty:tyV X.K T x H):
  s.TypeIs v T/\∀a,v=.ref a->∃ob,s.heap.get? a=some ob/\ob.dict=none:=by
 cases x with
 |str z=>
  obtain⟨t,rfl⟩:=r;cases(show T="str" from ty)
  exact⟨typeIs_str s z t,λ_ e=>nomatch e⟩
 |int i=>
  obtain⟨t,rfl⟩:=r;cases(show T="int" from ty)
  exact⟨typeIs_int s i t,λ_ e=>nomatch e⟩
 |ref p=>
  cases r
  rcases ty with⟨rfl,xs,hq⟩|⟨rfl,o,hk,hc,hd⟩|⟨rfl,hk⟩|⟨rfl,S,n,hk⟩
  ·obtain⟨its,_,pl,_⟩:=I.list hq;refine⟨pl.isList.typeIs,λa e=>?_⟩;cases e
   obtain⟨o,n,e,c,hd,_⟩:=pl;exact⟨o,e,hd⟩
  ·refine⟨⟨o,I.kIn p o hk,hc⟩,λa e=>?_⟩;cases e
   exact⟨o,I.kIn _ o hk,hd⟩
  ·have z:∃o,s.heap.get? p=some o/\o.ExactDict:=by
    rcases hk with⟨kvs,hk⟩|⟨kvs,hk⟩
    ·obtain⟨_,_,_,_,o,_,_,e,ex,_⟩:=I.hok p _ hk;exact⟨o,e,ex⟩
    ·obtain⟨_,_,_,_,o,_,_,e,ex,_⟩:=I.hok p _ hk;exact⟨o,e,ex⟩
   obtain⟨o,e,ex⟩:=z;refine⟨⟨o,e,ex.1⟩,λa e2=>?_⟩;cases e2
   exact⟨o,e,ex.2.1⟩
  ·obtain⟨o,_,_,_,e,ex,_⟩:=I.hok p _ hk;refine⟨⟨o,e,ex.1⟩,λa e2=>?_⟩;cases e2
   exact⟨o,e,ex.2.1⟩
 |_=>exact Rn ty
def tBM(K:Py)(T:String)(r:V->List V->Hp->VK->Prop)(to:TE)(t:TA):TE:=λσ H Q=>to σ H λx H1=>tyV K T x H1/\t σ H1 λxs H2=>r x xs H2 Q
variable{o:Expr}{to:TE}{t:TA}{id:String}{r:V->List V->Hp->VK->Prop}
theorem Lu(pa:PlainAttrs T)(slot:Slot T name id)(kj:typeOf (.builtin id)=pure (.type "method_descriptor"))(hm:MtR X id r)(ho:PE X o to)(ha:PA X (e::es) t)
  (bo:Sh o name X.env (eval o X.env)=eval o X.env:=by rfl)
  (dj:((backTo ae (P3 (e::es) X.env)).all (λx=>!x.1)&&(backToKw ae (keywordEach [] X.env)).all (λx=>x.1.isSome)
   && decide ((e::es).length+([]:List Keyword).length+(if([]:List Keyword).isEmpty then 0 else 1)<30))=true:=by rfl)
  (bh:(apos.endLine == ae.line)=true:=by rfl) (hs:P3 (e::es) X.env=(false,eval e X.env)::P3 es X.env:=by rfl) (b7:(backTo ae (P3 es X.env)).any (·.1)=false:=by rfl):
  PE X (.Call (.Attribute o name apos) (e::es) [] ae) (tBM X.K T r to t):=by
 intro pins s σ H Q I h;refine wpAny_Call_method_late bo dj bh rfl (thn (ho pins s σ H _ I h) λv s1 hz=>?_);obtain⟨x,H1,I1,r1,ty,q1⟩:=hz;obtain⟨h1,h2⟩:=JB I1 r1 ty;refine⟨T,id,pa,slot,kj,h1,h2,?_⟩;have hA:=ha ae pins s1 σ H1 _ I1 q1;rw[hs]at hA⊢;refine Sq (by show(false || (backTo ae (P3 es X.env)).any (·.1))=false;rw[b7] <;> rfl) (Calls.evalArgs_plain ?_);exact thn hA λus s2 ⟨vs,H2,I2,r2,q2⟩=>hm pins s2 σ H2 x vs v us Q I2 r1 r2 q2
end
def MtM(X:Cx)(id:String)(r:V->List V->Hp->VK->Prop):Prop:=
 ∀(pins:List (Addr×Obj))(s:Shared)(σ:St)(H:Hp)(x:V)(xs:List V)(v:Value)(us:List Value)(Q:VK),Inv X pins σ H s->RelV x v->aI xs us->r x xs H Q->
  wpAny (model X.prog X.w) X.A (call (.builtin id) (v::us)) (EP X pins σ Q) X.xe s
theorem aI.one:∀{x:V}{us:List Value},aI [x] us->∃u,us=[u]/\RelV x u
 |_,_,.cons r .nil=>⟨_,rfl,r⟩
variable{l:Addr}{t':Nat}
section
variable{b:Addr}{xs ys zs:List V}
theorem Inv.lset{f:Array Value->Array Value}(I:Inv X pins σ H s)(hH:H l=some (.lst xs))(e:s.heap.get? l=some { cls:=.type "list",data:=.seq its.toArray n })(hf:f its.toArray=its'.toArray)(hv:aI ys its')(hz:ys.length<=PP):
  Inv X pins σ (upd H l (.lst ys)) { s with heap:=s.heap.update l (Qj f),toks:=t' }:=by
 have q:=PySem.IsL.update e f;rw[hf]at q;refine I.write (x:=l) (e:=l) (by rw[hH];exact trivial) (.inl rfl) (λb' u hb hu=>(So s.heap (Qj f) (QS hb)).trans hu) ⟨_,q⟩ ?_;exact⟨hz,its',_,hv,q⟩
theorem Inv.lnew(I:Inv X pins σ H s)(hv:aI ys its)(hz:ys.length<=PP):
  Inv X pins σ (upd H s.heap.objs.size (.lst ys)) { s with heap:=s.heap.push { cls:=.type "list",data:=.seq its.toArray },toks:=t' }:=
 I.laid (λ_ _ q=>PB _ q) (PD _) ⟨hz,its,0,hv,PR _ rfl⟩
theorem Inv.fresh(I:Inv X pins σ H s):H s.heap.objs.size=none:=I.hok.fresh (PD _)
theorem Inv.lstM(I:Inv X pins σ H s)(hH:H l=some (.lst xs)):xs.length<=PP/\∃(its:List Value)(n:Nat),aI xs its/\xs.length=its.length/\s.heap.get? l=some { cls:=.type "list",data:=.seq its.toArray n }:=by
 obtain⟨z,its,n,r,e⟩:=I.hok l _ hH;exact⟨z,its,n,r,r.length,e⟩
end
def BX:V->List V->Hp->VK->Prop:=λx vs H Q=>∃l xs y,x=.ref l/\vs=[y]/\H l=some (.lst xs)/\xs.length<PP/\Q .non (upd H l (.lst (xs++[y])))
theorem vR:MtM X "list.append" BX:=by
 intro pins s σ H x vs v us Q I rx rv h;obtain⟨l,xs,y,rfl,rfl,hH,hz,q⟩:=h;cases rx
 obtain⟨u,rfl,ru⟩:=rv.one;obtain⟨z,its,n,r,hl,e⟩:=I.lstM hH;refine call_meets F.slot_list_append ⟨_,e,rfl⟩ F.entry_list_append (F.args_list_append_2 _ _) (PySem.list_append l its.toArray n u (by rw[PJ];omega)) ⟨e,?_⟩;refine⟨.non,_,I.lset (its':=its++[u]) hH e (by simp) (r.append (.cons ru .nil)) ?_,rfl,q⟩;rw[QU,List.length_singleton];omega
def Lv:R2:=λx y H Q=>∃l b xs zs,x=.ref l/\y=.ref b/\H l=some (.lst xs)/\H b=some (.lst zs)/\xs.length+zs.length<=PP/\∀p,H p=none->Q (.ref p) (upd H p (.lst (xs++zs)))
theorem JC:OpR X (QW .Add) Lv:=by
 intro pins s σ H x y v u Q I rx ry h;obtain⟨l,b,xs,zs,rfl,rfl,hH,hB,hz,q⟩:=h;cases rx
 cases ry
 obtain⟨z,its,n,r,hl,e⟩:=I.lstM hH;obtain⟨z2,cx,n2,r2,ix,e2⟩:=I.lstM hB;refine PySem.P.add_list e e2 ?_ (by rw[PJ,PJ];omega);have ea:its.toArray++cx.toArray=(its++cx).toArray:=by simp
 rw[ea];exact⟨.ref _,_,I.lnew (t':=s.toks) (r.append r2) (by rw[QU];omega),rfl,q _ I.fresh⟩
end L2
namespace Att
open PySem PySem.W PySem.Calls PyProof.Rows
variable{P:Params}{h:Heap}
theorem rQ:∀(ns:List Int)(vs:List Value),WellAll P h vs (ns.map WData.int)->IntsAre vs ns:=by
 intro ns
 induction ns with
 |nil=>
  intro vs w;rw[List.map_nil]at w;cases w
  exact .nil
 |cons n ns ih=>
  intro vs w;rw[P0]at w;cases w with
  |cons a b=>
   cases a
   exact .cons _ _ (ih _ b)
variable{args:List WData}{l:OpenLaw}{n:Nat}{vals:List Value}
theorem CQ(hn:l.most=some n)(je:l.row.toRowW.claim.pre args=true)(r6:WellAll P h vals args):
  ∃a vs ns,vals=[Qk a]/\args=[WData.list (ns.map WData.int)]/\h.get? a=some { cls:=.type "list",data:=.seq vs.toArray }/\IntsAre vs ns/\ns.length<=n:=by
 have hsh:WShape.hasAll [] args [.list .int]=true:=(pre_splitW je).1;have hc:l.pre.holds [] { args:=args }=true:=(pre_splitW je).2;obtain⟨d,r,rfl,h1,h2⟩:=hasAllW_cons hsh;obtain rfl:=hasAllW_nil h2;obtain⟨xs,rfl,h3⟩:=hasW_list h1;obtain⟨ns,rfl⟩:=items_int h3;have hlen:ns.length<=n:=by
  unfold OpenLaw.pre at hc;have h4:(WTm.not (.lt (.lit (.int (n:Int))) (.len (.arg 0)))).holds [] { args:=[.list (ns.map .int)] }=true:=by
   have h4:=(holds_andW hc).1;rw[hn]at h4;exact h4
  have h5:=condW_of h4 (w_not (w_lt w_lit (w_len_list (w_arg rfl))));rw[PC]at h5;refine Nat.le_of_not_lt λq=>?_;have q':(n:Int)<((ns.length:Nat):Int):=by omega
  first
   |(rw[decide_eq_true q']at h5;exact absurd h5 (by decide))
   |(simp at h5;omega)
 cases r6 with
 |cons w1 w2=>
  cases w2
  cases w1 with
  |list ho hall=>exact⟨_,_,ns,rfl,rfl,ho,rQ ns _ hall,hlen⟩
theorem CS(l:OpenLaw)(args:List WData):l.row.toRowW.claim.post args (.bool true) args=true:=
 postW_of (r:=l.row.toRowW) (X:=(true == true))
  (show WShape.has [] (.bool true) .bool=true by first|rfl|decide|simp[WShape.has,WShape.arms,WShape.armsAll])
  (show(WTm.eq .res (.lit (.bool true))).value [] { args:=args,res:=some (.bool true),after:=args }=some (.bool (true == true)) from w_eq_bool (w_res rfl) w_lit) rfl
variable{XP:(Str->Option Value)->Heap->Prop}{YP:World->Heap->Prop}{loose:List Str}
theorem attach_call{q:Program}{d:DefRec}(hn:l.most=some n)(my:d.params.defaults=[])(call:∀(w:World)(s₀ s₁:Shared)(mg mb:Str->Option Value)(fa:Addr)(o:Obj)(pm cd doc:Value)(a:Addr)(vs:List Value)(ns:List Int),
   Ground q loose [] XP w s₀ mg mb s₁.heap->YP w s₁.heap->
   s₁.heap.get? fa=some o->o.data=.func (docDef d.name d.params d.body d.scope pm cd doc)->s₁.heap.CodeRec cd d.name->mg d.name=some (.ref fa)->
   s₁.heap.get? a=some { cls:=.type "list",data:=.seq vs.toArray }->IntsAre vs ns->ns.length<=n->s₁.gens=#[]->
   codeAny (model l.prog w) callerA (.call (.ref fa) ⟨[.ref a],[]⟩) (λr s'=>r=.ok (.ret (.bool true))/\OldK s₁.heap s'.heap/\s'.os=s₁.os/\AllBare s'.gens) s₁):
  WalkO q loose XP YP l.row.toRowW d [] (λf vs=>PySem.call f vs):=by
 intro w s₀ s₁ mg mb G Y fa o pm cd doc dV kV ho hd fh hD hmg hg args vals as je hlay hrd r6 hlo;obtain rfl:dV=.none:=Dflts.none hD my;obtain rfl:kV=.none:=Dflts.noKw hD;obtain⟨a,vs,ns,rfl,rfl,kg,hints,hlen⟩:=CQ hn je r6;refine enter_call (codeAny_mono (call w s₀ s₁ mg mb fa o pm cd doc a vs ns G Y ho (fd_plain hd) fh hmg kg hints hlen hg) λr s' hq=>?_);obtain⟨rfl,h2,h3,h4⟩:=hq;exact⟨.inl ⟨.bool true,.bool true,[],rfl,λ_=>rfl,.bool true,CS l _,λ_=>⟨List.Pairwise.nil,λ_ hm=>(nomatch hm)⟩⟩,h2,h3,h4⟩
end Att
namespace L2
open PySem PySem.Spec PyProof.Rows
theorem vS:∀{vs:List Value}{ns:List Int},IntsAre vs ns->aI (ns.map V.int) vs
 |_,_,.nil=>.nil
 |_,_,.cons n t h=>.cons ⟨t,rfl⟩ (vS h)
def Ei(H:Hp):Prop:=∀b,H b=none\/∃o xs,H b=some (.frz o (.lst xs))
variable{CX:CXT}{K:Py}{P:Program}{a:Addr}{fd:Rl}{mg:Str->Option Value}{ns:List Int}{sp:Sp}{s₁:Shared}{w:World}{x:Str}
theorem Ej{mb:Str->Option Value}{k:Nat}{fa:Addr}{vs:List Value}(KX:K.In s₁.heap)(vf:s₁.heap.Ns QR mg)(hb:s₁.heap.Ns builtinsNs mb)(k5:∀x:Str,x≠"__name__" -> mb x=RT x)(uw:s₁.heap.NoLimit)(hg:s₁.gens=#[])(ha:s₁.heap.get? a=some { cls:=.type "list",data:=.seq vs.toArray })(hi:IntsAre vs ns)(hl:ns.length<=PP)(hr:dX k callerA)(F:∀base:Heap,K.In base->base.Ns QR mg->cE P w K mg base CX k fa fd [x] sp)(oh:∀(s:Shared)(u:Value),BindsTo s fd ⟨[u],[]⟩ [(x,u)])(j3:∀H:Hp,Ei H->SqL K H a (ns.map V.int)->sp [.ref a] H (λv _=>v=.bl true) λ_ _ _=>False)(uy:∀H e s',CX [] H s₁ (λ_ _ _=>False) e s'->False):
  codeAny (model P w) callerA (.call (.ref fa) ⟨[.ref a],[]⟩) (λr s'=>r=.ok (.ret (.bool true))/\OldK s₁.heap s'.heap/\s'.os=s₁.os/\AllBare s'.gens) s₁:=by
 have rv:=vS hi;have uv:=hi.length
 -- from an abstract heap in which nothing but the script may be tracked
 have core:∀H:Hp,Ei H->SqL K H a (ns.map V.int)->HOk P w H s₁.heap->(∀b,H b≠none->b=a)->(H a≠none->K.lookup a=none)->
   codeAny (model P w) callerA (.call (.ref fa) ⟨[.ref a],[]⟩) (λr s'=>r=.ok (.ret (.bool true))/\OldK s₁.heap s'.heap/\s'.os=s₁.os/\AllBare s'.gens) s₁:=by
  intro H hO hS hok hA hK;have d6:∀{b:Addr}{o:Obj},s₁.heap.get? b=some o->H b=none->(xQ s₁.heap H).get? b=some o:=λe n=>DW e n;have m7:∀{b:Addr}{o:Obj}{es:Array RU}{ep:Nat},s₁.heap.get? b=some o->o.data=.dict es ep->H b=none:=λ{b o es ep} e d=>by
   cases q:H b with
   |none=>rfl
   |some u=>
    have e':b=a:=hA b (by rw[q];simp);subst e';rw[ha]at e;cases e;have d':Data.seq vs.toArray _=Data.dict es ep:=d;cases d'
  have qg:∀{b:Addr}{m:Str->Option Value},s₁.heap.Ns b m->(xQ s₁.heap H).Ns b m:=λ{b m} ⟨o,es,ep,e,d,r⟩=>⟨o,es,ep,d6 e (m7 e d),d,r⟩;have v9:K.In (xQ s₁.heap H):=λb o e=>d6 (KX b o e) (by
   cases q:H b with
   |none=>rfl
   |some u=>
    have e':b=a:=hA b (by rw[q];simp);subst e';rw[hK (by rw[q];simp)]at e;cases e)
  have hM:Mod K mg (xQ s₁.heap H):=⟨v9,qg vf,⟨mb,qg hb,k5⟩,let ⟨mc,h1,h2⟩:=uw;⟨mc,qg h1,h2⟩⟩;have e0:vA P w K mg (xQ s₁.heap H) callerA [] s₁ H:=⟨rfl,hM,λb o e=>Gu e,Nat.le_of_eq (CC _ _),trivial,λb hb=>absurd (show b∈([]:List Addr) from hb) (by simp),hok,.of_eq hg⟩
  refine codeAny_mono ((F _ v9 (qg vf)).run callerA [] s₁ H ⟨[.ref a],[]⟩ [.ref a] [.ref a] _ _ hr e0 (oh s₁ (.ref a)) (.cons rfl .nil) (j3 H hO hS)) λr s' h=>?_;cases r with
  |error e=>exact(uy H e s' h).elim
  |ok fl=>
   cases fl with
   |next=>exact Rn h
   |brk=>exact Rn h
   |cont=>exact Rn h
   |ret u=>
    obtain⟨v,H',os,bare,un,sd,r',q⟩:=h;have q':v=.bl true:=q;subst q';obtain rfl:u=Value.bool true:=r';refine⟨rfl,OldK.of_keep λb o e=>?_,os,bare⟩;cases q:H b with
    |none=>exact un.keep b o e q (by intro z;exact absurd (show b∈([]:List Addr) from z) (by simp)) (by simp)
    |some u=>
     rcases hO b with z|⟨ob,xs,z⟩
     ·rw[q]at z;cases z
     ·have z2:=un.frzs b ob _ z;obtain⟨e1,_⟩:=hok b _ z;obtain⟨e2,_⟩:=sd b _ z2;rw[e]at e1;cases e1;exact e2
 cases hk:K.lookup a with
 |some o=>
  -- the script is one of the module's own objects
  have e:=KX a o hk;rw[ha]at e;cases e
  refine core (λ_=>none) (λ_=>.inl rfl) (.inr ⟨_,vs.toArray,_,hk,rfl,rfl,rfl,by rw[PJ,uv];exact hl,by simpa using rv⟩) (λb u z=>by have z':(none:Option HO)=some u:=z;cases z') (λb z=>absurd rfl z) λz=>absurd rfl z
 |none=>
  refine core (λb=>if b=a then some (.frz { cls:=.type "list",data:=.seq vs.toArray } (.lst (ns.map V.int))) else none) (λb=>?_) (.inl (.inr ⟨{ cls:=.type "list",data:=.seq vs.toArray },if_pos rfl⟩)) (λb u z=>?_) (λb z=>?_) λ_=>hk
  ·by_cases hb:b=a
   ·exact .inr ⟨_,_,if_pos hb⟩
   ·exact .inl (if_neg hb)
  ·by_cases hb:b=a
   ·have z':=(if_pos hb).symm.trans z;cases z'
    subst hb;exact⟨ha,by rw[PC];exact hl,vs,_,rv,ha⟩
   ·have z':=(if_neg hb).symm.trans z;cases z'
  ·by_cases hb:b=a
   ·exact hb
   ·exact absurd (if_neg hb) z
variable{XP:(Str->Option Value)->Heap->Prop}{YP:World->Heap->Prop}{loose:List Str}{n:Nat}
theorem walk_of{l:PySem.W.OpenLaw}{k:Nat}{q:Program}{d:DefRec}{K:Params->Py}{CX:World->CXT}{sp:World->Sp}(hn:l.most=some n)(o5:n<=PP)(my:d.params.defaults=[])(hr:dX k callerA)(hY:∀(w:World)(h:Heap),YP w h->(K w.params).In h)(F:∀(w:World)(mg:Str->Option Value)(fa:Addr)(h:Heap),(K w.params).In h->h.Ns QR mg->mg d.name=some (.ref fa)->
   ∃fd:Rl,(∀(s:Shared)(u:Value),BindsTo s fd ⟨[u],[]⟩ [(x,u)])/\
    ∀base:Heap,(K w.params).In base->base.Ns QR mg->cE l.prog w (K w.params) mg base (CX w) k fa fd [x] (sp w))(j3:∀(w:World)(H:Hp)(a:Addr)(ns:List Int),ns.length<=n->Ei H->SqL (K w.params) H a (ns.map V.int)->sp w [.ref a] H (λv _=>v=.bl true) λ_ _ _=>False)(uy:∀(w:World)(H:Hp)(s:Shared)(e:Value)(s':Shared),CX w [] H s (λ_ _ _=>False) e s'->False):
  PySem.W.WalkO q loose XP YP l.row.toRowW d [] (λf vs=>PySem.call f vs):=by
 refine Att.attach_call hn my λw s₀ s₁ mg mb fa o pm cd doc a vs ns G Y ho hd fh hmg kg hints hlen hg=>?_;have KX:=hY w _ Y;obtain⟨fd,hb,hF⟩:=F w mg fa _ KX G.T.g hmg;exact Ej KX G.T.g G.T.b G.T.builtins G.T.nolimit hg kg hints (Qb hlen o5) hr hF hb (λH hO hS=>j3 w H a ns hlen hO hS) λH e s'=>uy w H s₁ e s'
def inClass(s:Stmt)(j:Nat):Stmt:=match s with
 |.ClassDef _ _ _ body _ _ _ _ _ _ _=>body.getD j (.Pass ⟨0,0,0,0⟩)
 |_=>.Pass ⟨0,0,0,0⟩
def dY(s:Stmt):Arguments:=match s with
 |.FunctionDef _ a _ _ _ _ _ _ _ _=>a
 |_=>{ posonlyargs:=[],args:=[],vararg:=none,kwonlyargs:=[],kw_defaults:=[],kwarg:=none,defaults:=[] }
def bW(s:Stmt):List Stmt:=match s with
 |.FunctionDef _ _ b _ _ _ _ _ _ _=>b
 |_=>[]
def aP(s:Stmt):Scope:=match s with
 |.FunctionDef _ _ _ _ _ _ sc _ _ _=>sc
 |_=>{ kind:=.function,names:=[],isGenerator:=false,isCoroutine:=false }
abbrev CX0:CXT:=λ_ _ _ _ _ _=>False
abbrev E0:XK:=λ_ _ _=>False
variable{X:Cx}
theorem A6:mD CX0 X E0:=λ_ _ _ _ _ _ _ h=>h.elim
structure Fun(K:Py)(x qual:Str)(st:Stmt)(f:Addr)(fd:Rl):Prop where
 ex:∃(oc:Value)(od:Option Addr)(kV doc pm:Value)(an:Option Addr)(cdv ct:Value)(osl:Array (Option Value)),
  fd=Rk x qual (dY st) (bW st) (aP st) .none kV doc pm an cdv ct/\K.lookup f=some ⟨oc,od,.func fd,osl⟩/\Tf K cdv qual=true
 kp:Rr K (.ref f)=true
variable{N ps:List Str}{qual:Str}{st:Stmt}
theorem Fun.ok{base:Heap}{f:Addr}{k:Nat}(F:Fun K x qual st f fd)(S:nP N ps (aP st))(len:∀vs H Q E,sp vs H Q E->vs.length=ps.length)(ic:∀(cdv:Value)(A:Around)(outer:List Env)(s:Shared)(H:Hp)(vs:List V)(Q:VK)(E:XK),dX k (A.deeper (envOfC qual (aP st) s.heap.objs.size f cdv))->sp vs H Q E->
   ∃t,PSs (vB CX0 P w K mg base N qual (aP st) f cdv A outer s H E).nox (bW st) t/\t { nx:=λ_ H'=>Q .non H',rt:=Q } (start N vs) H):cE P w K mg base CX0 (k+1) f fd ps sp:=by
 obtain⟨oc,od,kV,doc,pm,an,cdv,ct,osl,rfl,lk,fh⟩:=F.ex;refine Lo lk fh S len λA outer s H vs Q E hr j3=>?_;obtain⟨t,h,q⟩:=ic cdv A outer s H vs Q E hr j3;exact⟨t,h.nox,q⟩
theorem Fun.binds{f:Addr}(F:Fun K x qual st f fd)(h:∀(kV doc pm:Value)(an:Option Addr)(cdv ct:Value)(us:List Value),us.length=ps.length->bindArgs (Rk x qual (dY st) (bW st) (aP st) .none kV doc pm an cdv ct) ⟨us,[]⟩=pure (ps.zip us)):Binds K fd ps []:=by
 obtain⟨oc,od,kV,doc,pm,an,cdv,ct,osl,rfl,lk,fh⟩:=F.ex;exact .all (h kV doc pm an cdv ct)
variable{an:Option Addr}{cdv ct doc pm:Value}{osl:Array (Option Value)}
theorem B4{f:Addr}{oc:Value}{od:Option Addr}{kV:Value}(l:K.lookup f=some ⟨oc,od,.func (Rk x qual (dY st) (bW st) (aP st) .none kV doc pm an cdv ct),osl⟩)(c:Tf K cdv qual=true)(k:Rr K (.ref f)=true):Fun K x qual st f (Rk x qual (dY st) (bW st) (aP st) .none kV doc pm an cdv ct):=⟨⟨oc,od,kV,doc,pm,an,cdv,ct,osl,rfl,l,c⟩,k⟩
variable{A:Around}
theorem Lw{k:Nat}(hr:dX k A):A.units+1<cLine:=Nat.lt_of_le_of_lt (Nat.add_le_add_left (by decide:1<=64) _) hr.units
variable{B:Prop}
theorem CT{A:Prop}(h:B):if false=true then A else B:=by
 rw[if_neg PY];exact h
theorem CU{A:Prop}(h:A):if true=true then A else B:=by
 rw[if_pos rfl];exact h
def A7(H H':Hp):Prop:=∀b o,H b=some o->H' b=some o
variable{u:Value}{y:V}
section
variable{κ:Type}[DecidableEq κ]
def iD(kvs:List (κ×V))(k:κ):Option V:=(kvs.find? λkv=>decide (kv.1=k)).map (·.2)
def putK(kvs:List (κ×V))(k:κ)(v:V):List (κ×V):=
 if(kvs.any λkv=>decide (kv.1=k))=true then kvs.map (λkv=>if kv.1=k then(kv.1,v) else kv) else kvs++[(k,v)]
theorem nR{p:κ×V}{r:List (κ×V)}{k:κ}(e:p.1=k):iD (p::r) k=some p.2:=by simp[iD,Qv,e]
theorem nT{p:κ×V}{r:List (κ×V)}{k:κ}(e:¬ p.1=k):iD (p::r) k=iD r k:=by simp[iD,Qv,e]
theorem sO(k:κ):∀kvs:List (κ×V),(kvs.any λkv=>decide (kv.1=k))=(iD kvs k).isSome
 |[]=>rfl
 |p::r=>by
  rw[RI]
  by_cases e:p.1=k
  ·simp only[nR e,decide_eq_true e,Bool.true_or,Ss]
  ·rw[nT e,decide_eq_false e,Bool.false_or];exact sO k r
theorem jY(kvs:List (κ×V))(k:κ)(v:V):(putK kvs k v).length<=kvs.length+1:=by
 unfold putK;split
 ·rw[PC];omega
 ·rw[QU,QY,List.length_nil];omega
theorem jT.isSome_eq{o:Option V}{u:Option Value}(r:jT o u):o.isSome=u.isSome:=by
 cases o with
 |none=>cases u with
  |none=>rfl
  |some _=>exact(show False from r).elim
 |some _=>cases u with
  |none=>exact(show False from r).elim
  |some _=>rfl
theorem jT.getD{o:Option V}{u:Option Value}{d:V}{d':Value}(r:jT o u)(rd:RelV d d'):RelV (o.getD d) (u.getD d'):=by
 cases o with
 |none=>cases u with
  |none=>exact rd
  |some _=>exact(show False from r).elim
 |some _=>cases u with
  |none=>exact(show False from r).elim
  |some _=>exact r
theorem KV.val{kvs:List (κ×V)}{vs:List (κ×Value)}(r:KV kvs vs)(k:κ):jT (iD kvs k) (valueAt vs k):=by
 unfold KV at r
 induction r with
 |nil=>exact Re
 | @cons p q ps qs h t ih=>
  obtain⟨h1,h2⟩:=h
  by_cases e:p.1=k
  ·have e':q.1=k:=h1.symm.trans e;have b:valueAt (q::qs) k=some q.2:=by simp[valueAt,Qv,e']
   rw[nR e,b];exact h2
  ·have e':¬ q.1=k:=λz=>e (h1.trans z);have b:valueAt (q::qs) k=valueAt qs k:=by simp[valueAt,Qv,e']
   rw[nT e,b];exact ih
theorem KV.any{kvs:List (κ×V)}{vs:List (κ×Value)}(r:KV kvs vs)(k:κ):(kvs.any λkv=>decide (kv.1=k))=vs.any λkv=>decide (kv.1=k):=by
 unfold KV at r
 induction r with
 |nil=>rfl
 |cons h t ih=>rw[RI,RI,ih,h.1]
theorem KV.repl{kvs:List (κ×V)}{vs:List (κ×Value)}(r:KV kvs vs)(k:κ)(ry:RelV y u):
  KV (kvs.map λkv=>if kv.1=k then(kv.1,y) else kv) (vs.map λkv=>if kv.1=k then(kv.1,u) else kv):=by
 unfold KV at r⊢
 induction r with
 |nil=>exact .nil
 | @cons p q ps qs h t ih=>
  rw[P0,P0];refine .cons ?_ ih;obtain⟨h1,h2⟩:=h
  by_cases e:p.1=k
  ·rw[if_pos e,if_pos (h1.symm.trans e)];exact⟨h1,ry⟩
  ·rw[if_neg e,if_neg (λz=>e (h1.trans z))];exact⟨h1,h2⟩
theorem KV.put{kvs:List (κ×V)}{vs:List (κ×Value)}(r:KV kvs vs)(k:κ)(ry:RelV y u):KV (putK kvs k y) (stored vs k u):=by
 unfold putK stored;rw[r.any k]
 by_cases e:(vs.any λkv=>decide (kv.1=k))=true
 ·rw[if_pos e,if_pos e];exact r.repl k ry
 ·rw[if_neg e,if_neg e];exact Paired.snoc r ⟨rfl,ry⟩
theorem KV.length{kvs:List (κ×V)}{vs:List (κ×Value)}(r:KV kvs vs):kvs.length=vs.length:=Qz r
end
theorem nU{k:Key}(r:RelV (kV k) u):(aQ P w).is k u=true:=by
 cases k with
 |inl i=>obtain⟨t,e⟩:=(show ∃t,u=Value.int i t from r);subst e;exact zV P w i t
 |inr x=>obtain⟨t,e⟩:=(show ∃t,u=Value.str x t from r);subst e;exact qW P w x t
theorem vT{P:Program}{w:World}:∀{ks:List Key}{us:List Value},aI (ks.map kV) us->ItemsAre (aQ P w) ks us
 |[],_,r=>by rw[List.map_nil]at r;cases r;exact .nil
 |k::ks,_,r=>by
  rw[P0]at r;cases r with
  |cons h t=>exact .cons (nU h) (vT t)
abbrev KT(H:Hp):List (List Key×V)->List (List Key×Addr×Value)->Prop:=Paired λp q=>p.1=q.1/\H q.2.1=some (.tup (p.1.map kV))/\RelV p.2 q.2.2
variable{H:Hp}
theorem KT.val{kvs:List (List Key×V)}{xs:List (List Key×Addr×Value)}(r:KT H kvs xs)(k:List Key):jT (iD kvs k) ((atKey xs k).map (·.2)):=by
 induction r with
 |nil=>exact Re
 | @cons p q ps qs h t ih=>
  obtain⟨h1,_,h2⟩:=h
  by_cases e:p.1=k
  ·have e':q.1=k:=h1.symm.trans e;have b:atKey (q::qs) k=some q.2:=by simp[atKey,Qv,e']
   rw[nR e,b];exact h2
  ·have e':¬ q.1=k:=λz=>e (h1.trans z);have b:atKey (q::qs) k=atKey qs k:=by simp[atKey,Qv,e']
   rw[nT e,b];exact ih
theorem KT.repl{kvs:List (List Key×V)}{xs:List (List Key×Addr×Value)}(r:KT H kvs xs)(k:List Key)(ry:RelV y u):
  KT H (kvs.map λkv=>if kv.1=k then(kv.1,y) else kv) (xs.map (putAt k u)):=by
 induction r with
 |nil=>exact .nil
 | @cons p q ps qs h t ih=>
  rw[P0,P0];refine .cons ?_ ih;obtain⟨h1,h2,h3⟩:=h;unfold putAt
  by_cases e:p.1=k
  ·rw[if_pos e,if_pos (h1.symm.trans e)];exact⟨h1,h2,ry⟩
  ·rw[if_neg e,if_neg (λz=>e (h1.trans z))];exact⟨h1,h2,h3⟩
theorem KT.put{kvs:List (List Key×V)}{xs:List (List Key×Addr×Value)}(r:KT H kvs xs)(k:List Key){b:Addr}(hb:H b=some (.tup (k.map kV)))(ry:RelV y u):
  KT H (putK kvs k y) (storedH xs k b u):=by
 have e:(kvs.any λkv=>decide (kv.1=k))=(atKey xs k).isSome:=by
  rw[sO,(r.val k).isSome_eq,R5]
 unfold putK storedH;rw[e]
 by_cases q:(atKey xs k).isSome=true
 ·rw[if_pos q,if_pos q];exact r.repl k ry
 ·rw[if_neg q,if_neg q];exact Paired.snoc r ⟨rfl,hb,ry⟩
variable{H':Hp}
theorem KT.keeps{kvs:List (List Key×V)}{xs:List (List Key×Addr×Value)}(r:KT H kvs xs)(ht:∀b ys,H b=some (.tup ys)->H' b=some (.tup ys)):KT H' kvs xs:=
 Paired.mapP r λ_ _ z=>⟨z.1,ht _ _ z.2.1,z.2.2⟩
theorem IQ{h:Heap}{u:HO}(ok:HOk P w H h)(e:Rd H a u):bC P w H h a u:=e.ok ok
theorem rB{h:Heap}{kvs:List (Key×V)}(ok:HOk P w H h)(e:Rd H a (.dK kvs)):kvs.length<=PP/\(a == QG)=false/\∃vs,KV kvs vs/\h.DictOf (aQ P w) a vs:=
 show bC P w H h a (.dK kvs) from IQ ok e
theorem vU{h:Heap}{kvs:List (Key×V)}(ok:HOk P w H h)(e:H a=some (.dK kvs)):kvs.length<=PP/\(a == QG)=false/\∃vs,KV kvs vs/\h.DictOf (aQ P w) a vs:=rB ok (.inl e)
theorem mE{h:Heap}{ks:List Key}(ok:HOk P w H h)(e:H a=some (.tup (ks.map kV))):(tupleKind (aQ P w)).is h ks a:=by
 obtain⟨_,its,r,o,h1,h2,⟨n,h3⟩,_⟩:=(show bC P w H h a (.tup (ks.map kV)) from ok a _ e)
 exact⟨o,its.toArray,n,h1,h2,h3,by simpa using vT r⟩
theorem sP{h:Heap}{kvs:List (List Key×V)}(ok:HOk P w H h)(e:Rd H a (.dT kvs)):kvs.length<=PP/\(a == QG)=false/\
  ∃xs,KT H kvs xs/\h.DictOfH (tupleKind (aQ P w)) a xs:=by
 obtain⟨z,y,xs,r,o,es,ep,h1,h2,h3,h4,h5⟩:=(show bC P w H h a (.dT kvs) from IQ ok e)
 refine⟨z,y,xs,r,o,es,ep,h1,h2,h3,h4,λx hx=>?_,h5⟩;have all:∀{l:List (List Key×V)}{m:List (List Key×Addr×Value)},KT H l m->∀x∈m,(tupleKind (aQ P w)).is h x.1 x.2.1:=by
  intro l m q
  induction q with
  |nil=>intro x hx;exact nomatch hx
  | @cons p q ps qs hq t ih=>
   intro x hx;rcases P5.mp hx with e|hx
   ·subst e;exact mE ok (by rw[<-hq.1];exact hq.2.1)
   ·exact ih x hx
 exact all r x hx
theorem Lx{h:Heap}{kvs:List (List Key×V)}(ok:HOk P w H h)(e:H a=some (.dT kvs)):kvs.length<=PP/\(a == QG)=false/\
  ∃xs,KT H kvs xs/\h.DictOfH (tupleKind (aQ P w)) a xs:=sP ok (.inl e)
def mF(H:Hp)(a:Addr)(y:V)(r:Option V):Prop:=
 (∃kvs k,Rd H a (.dK kvs)/\y=kV k/\r=iD kvs k)\/∃kvs k b,Rd H a (.dT kvs)/\y=.ref b/\H b=some (.tup (k.map kV))/\r=iD kvs k
def JD(H:Hp)(a:Addr)(y v:V)(H':Hp):Prop:=
 (∃kvs k,H a=some (.dK kvs)/\y=kV k/\kvs.length<PP/\H'=upd H a (.dK (putK kvs k v)))\/
 ∃kvs k b,H a=some (.dT kvs)/\y=.ref b/\H b=some (.tup (k.map kV))/\kvs.length<PP/\H'=upd H a (.dT (putK kvs k v))
theorem mF.k{H:Hp}{a:Addr}{kvs:List (Key×V)}{k:Key}(e:H a=some (.dK kvs)):mF H a (kV k) (iD kvs k):=.inl ⟨kvs,k,.inl e,rfl,rfl⟩
theorem JD.k{H:Hp}{a:Addr}{kvs:List (Key×V)}{k:Key}{v:V}(e:H a=some (.dK kvs))(hl:kvs.length<PP):JD H a (kV k) v (upd H a (.dK (putK kvs k v))):=.inl ⟨kvs,k,e,rfl,hl,rfl⟩
variable{pins:List (Addr×Obj)}{s:Shared}{σ:St}
theorem Inv.big(I:Inv X pins σ H s):QG<s.heap.objs.size:=by
 have h:QR<s.heap.objs.size:=(I.mod.glob.keeps I.bk).lt;exact Nat.lt_trans (by decide) h
variable{E Q:Value->Shared->Prop}{v:V}
theorem CV(hu:A.units+1<cLine)(I:Inv X pins σ H s)(g:mF H a y (some v))(ry:RelV y u)(h:∀w' s',Inv X pins σ H s'->RelV v w'->Q w' s'):
  wpAny (model X.prog X.w) A (getItem (.ref a) u) Q E s:=by
 rcases g with⟨kvs,k,e,ey,l⟩|⟨kvs,k,b,e,ey,eb,l⟩
 ·subst ey;obtain⟨z,hd,vs,rel,dd⟩:=rB I.hok e;obtain⟨w',hw,cq⟩:=jT.some_of (v:=v) (o:=valueAt vs k) (by rw[l];exact rel.val k);exact wpAny_getItem_of (nU ry) dd.mapOf hw (h w' _ (I.tok _) cq)
 ·subst ey;cases(show u=Qk b from ry)
  obtain⟨z,hd,xs,rel,dd⟩:=sP I.hok e;obtain⟨w',hw,cq⟩:=jT.some_of (v:=v) (o:=(atKey xs k).map (·.2)) (by rw[l];exact rel.val k);obtain⟨p,hp,yt⟩:=Qa.mp hw;refine wpAny_getItem_heap (RW hu) (mE I.hok eb) dd hp ?_;rw[yt];exact h w' _ (I.tok _) cq
theorem NU{o:Option V}(hu:A.units+1<cLine)(I:Inv X pins σ H s)(g:mF H a y o)(ry:RelV y u)(h:∀s',Inv X pins σ H s'->Q (.bool o.isSome) s'):
  wpAny (model X.prog X.w) A (Qn .In u (.ref a)) Q E s:=by
 rcases g with⟨kvs,k,e,ey,l⟩|⟨kvs,k,b,e,ey,eb,l⟩
 ·subst ey;obtain⟨z,hd,vs,rel,dd⟩:=rB I.hok e;refine wpAny_in_of (nU ry) hd dd.mapOf ?_;rw[<-(rel.val k).isSome_eq,<-l];exact h _ (I.tok _)
 ·subst ey;cases(show u=Qk b from ry)
  obtain⟨z,hd,xs,rel,dd⟩:=sP I.hok e;refine wpAny_in_heap (RW hu) (mE I.hok eb) hd dd ?_;have q:=(rel.val k).isSome_eq;rw[R5]at q;rw[<-q,<-l];exact h _ (I.tok _)
theorem GS{o:Option V}(hu:A.units+1<cLine)(I:Inv X pins σ H s)(g:mF H a y o)(ry:RelV y u)(h:∀s',Inv X pins σ H s'->Q (.bool (!o.isSome)) s'):
  wpAny (model X.prog X.w) A (Qn .NotIn u (.ref a)) Q E s:=by
 rcases g with⟨kvs,k,e,ey,l⟩|⟨kvs,k,b,e,ey,eb,l⟩
 ·subst ey;obtain⟨z,hd,vs,rel,dd⟩:=rB I.hok e;refine wpAny_notIn_of (nU ry) hd dd.mapOf ?_;rw[<-(rel.val k).isSome_eq,<-l];exact h _ (I.tok _)
 ·subst ey;cases(show u=Qk b from ry)
  obtain⟨z,hd,xs,rel,dd⟩:=sP I.hok e;refine wpAny_notIn_heap (RW hu) (mE I.hok eb) hd dd ?_;have q:=(rel.val k).isSome_eq;rw[R5]at q;rw[<-q,<-l];exact h _ (I.tok _)
variable{h':Heap}{t':Nat}
theorem nV{ob:HO}(I:Inv X pins σ H s)(mu:Mut (H a))(hs:Ra a s.heap h')(he:∃q,h'.get? a=some q)(new:bC X.prog X.w (upd H a ob) h' a ob):
  Inv X pins σ (upd H a ob) { s with heap:=h',toks:=t' }:=
 I.write (x:=a) (e:=a) mu (.inl rfl) (λb q hb z=>(hs.2 b hb).trans z) he new
theorem Ek{kvs:List (Key×V)}{vs:List (Key×Value)}(z:kvs.length<=PP)(hd:(a == QG)=false)(rel:KV kvs vs)(dd:h'.DictOf (aQ P w) a vs):
  bC P w H' h' a (.dK kvs):=⟨z,hd,vs,rel,dd⟩
theorem CW{r:Value}{Q:Unit->Shared->Prop}(hu:A.units+1<cLine)(I:Inv X pins σ H s)(g:JD H a y v H')(ry:RelV y u)(rv:RelV v r)(h:∀s',Inv X pins σ H' s'->Q () s'):
  wpAny (model X.prog X.w) A (setItem (.ref a) u r) Q E s:=by
 rcases g with⟨kvs,k,e,ey,l,eH⟩|⟨kvs,k,b,e,ey,eb,l,eH⟩
 ·subst ey eH;obtain⟨z,hd,vs,rel,dd⟩:=vU I.hok e;have hz:vs.length<=PP:=by rw[<-rel.length];exact z
  have hl:(putK kvs k v).length<=PP:=by have:=jY kvs k v;omega
  refine wpAny_setItem_pairs (hsz:=hz) (nU ry) dd λh' gi hs=>h _ ?_;have he:∃q,h'.get? a=some q:=let ⟨q,_,_,hq,_⟩:=gi;⟨q,hq⟩;exact nV I (by rw[e];exact Re) hs he (Ek hl hd (rel.put k rv) gi)
 ·subst ey eH;cases(show u=Qk b from ry)
  obtain⟨z,hd,xs,rel,dd⟩:=Lx I.hok e;have hz:xs.length<=PP:=by rw[<-Qz rel];exact z
  have hl:(putK kvs k v).length<=PP:=by have:=jY kvs k v;omega
  refine wpAny_setItem_heap (hsz:=hz) (RW hu) (mE I.hok eb) dd λh' gi hs=>h _ ?_;obtain⟨q,es,ep,hq,h2,h3,h4,_,h5⟩:=gi;refine nV I (by rw[e];exact Re) hs ⟨q,hq⟩ ⟨hl,hd,_,(rel.put k eb rv).keeps λc ys ec=>?_,q,es,ep,hq,h2,h3,h4,h5⟩;rw[aH (L9 ec e (λz=>nomatch z))];exact ec
theorem Ly{kvs:List (Key×V)}(I:Inv X pins σ H s)(e:Rd H a (.dK kvs))(h:∀t s',Inv X pins σ H s'->Q (.int kvs.length t) s'):wpAny (model X.prog X.w) A (call (.builtin "len") [.ref a]) Q E s:=by
 obtain⟨z,hd,vs,rel,dd⟩:=rB I.hok e;refine call_len_dict hd dd (by rw[<-rel.length];rw[Qt]at z;omega) ?_;rw[<-rel.length];exact h _ _ (I.tok _)
theorem A8{o:Option V}(I:Inv X pins σ H s)(g:mF H a y o):s.TypeIs (.ref a) "dict" := by
 rcases g with⟨kvs,k,e,_,_⟩|⟨kvs,k,b,e,_,_,_⟩
 ·obtain⟨_,_,vs,_,dd⟩:=rB I.hok e;exact dd.typeIs
 ·obtain⟨_,_,xs,_,dd⟩:=sP I.hok e;exact dd.typeIs
theorem El(h:Heap)(hb:QG<h.objs.size):bC P w H (h.push { cls:=.type "dict",data:=.dict #[] }) h.objs.size (.dK []):=
 ⟨Qd _,beq_eq_false_iff_ne.mpr (QS (P9 hb)),[],.nil,Heap.DictOf.new h⟩
def JE:TE:=λ_ H Q=>∀p,H p=none->Q (.ref p) (upd H p (.dK []))
variable{pos:Pos}
theorem Em:PE X (.Dict [] [] pos) JE:=λpins s σ H Q I h=>
 wpAny_Dict_empty ⟨.ref s.heap.objs.size,_,I.laid (a:=s.heap.objs.size) (o:=.dK []) (t':=s.toks) (λ_ _ q=>PB _ q) (PD _) (El s.heap I.big),rfl,h _ (I.hok.fresh (PD _))⟩
theorem JF{o:Option V}(hu:A.units+1<cLine)(I:Inv X pins σ H s)(g:mF H a y o)(ry:RelV y u)(h:∀w' s',Inv X pins σ H s'->RelV (o.getD .non) w'->Q w' s'):
  wpAny (model X.prog X.w) A (call (.builtin "dict.get") [.ref a,u]) Q E s:=by
 rcases g with⟨kvs,k,e,ey,l⟩|⟨kvs,k,b,e,ey,eb,l⟩
 ·subst ey;obtain⟨z,hd,vs,rel,dd⟩:=rB I.hok e;refine RM QF dd.typeIs Q4 (Sk _ _) (meets_dict_get (aQ X.prog X.w) a (nU ry) hd) ⟨_,dd.mapOf,h _ _ (I.tok _) ?_⟩;rw[l];exact(rel.val k).getD rfl
 ·subst ey;cases(show u=Qk b from ry)
  obtain⟨z,hd,xs,rel,dd⟩:=sP I.hok e;refine RM QF dd.typeIs Q4 (Sk _ _) (meetsH_dict_get (tupleKind (aQ X.prog X.w)) a b hd) ⟨RW hu,k,xs,mE I.hok eb,dd,h _ _ (I.tok _) ?_⟩;rw[l];exact(rel.val k).getD rfl
theorem JG{d:V}{r:Value}{o:Option V}(hu:A.units+1<cLine)(I:Inv X pins σ H s)(g:mF H a y o)(ry:RelV y u)(rd:RelV d r)(h:∀w' s',Inv X pins σ H s'->RelV (o.getD d) w'->Q w' s'):
  wpAny (model X.prog X.w) A (call (.builtin "dict.get") [.ref a,u,r]) Q E s:=by
 rcases g with⟨kvs,k,e,ey,l⟩|⟨kvs,k,b,e,ey,eb,l⟩
 ·subst ey;obtain⟨z,hd,vs,rel,dd⟩:=rB I.hok e;refine RM QF dd.typeIs Q4 (PySem.F.args_dict_get_3 _ _ _) (meets_dict_get_default (aQ X.prog X.w) a (nU ry) hd r) ⟨_,dd.mapOf,h _ _ (I.tok _) ?_⟩;rw[l];exact(rel.val k).getD rd
 ·subst ey;cases(show u=Qk b from ry)
  obtain⟨z,hd,xs,rel,dd⟩:=sP I.hok e;refine RM QF dd.typeIs Q4 (PySem.F.args_dict_get_3 _ _ _) (meetsH_dict_get_default (tupleKind (aQ X.prog X.w)) a b hd r) ⟨RW hu,k,xs,mE I.hok eb,dd,h _ _ (I.tok _) ?_⟩;rw[l];exact(rel.val k).getD rd
theorem CY:bS X (.builtin "len") (λxs H Q=>∃a kvs,xs=[V.ref a]/\H a=some (.dK kvs)/\Q (.int kvs.length) H):=by
 intro pins s σ H xs us Q I r h;obtain⟨a,kvs,rfl,ha,q⟩:=h;obtain⟨u,rfl,ru⟩:=vals1 r;cases ru
 exact Ly I (.inl ha) λt s' I'=>⟨.int kvs.length,H,I',⟨t,rfl⟩,q⟩
def BY(ifs:List Expr)(env:Env):Sem Bool:=forIn ifs true λc r=>if r=true then do let ok <-isTrue c env (eval c env);pure (ForInStep.yield ok) else pure (ForInStep.yield r)
variable{R:Result->Shared->Prop}{env:Env}{ifs:List Expr}{iter:Expr}{prog:Program}{scope:Scope}
theorem xZ{elt target:Expr}{it acc:Value}(I:Nat->Shared->Prop)(turn:∀n s,I n s->wpAny (model prog w) A (pyNext it) (λr s₁=>match r with
   |none=>R (.ok .next) s₁
   | some v=>wpAny (model prog w) A (letOwnedTupleGo target it v) (fun _ xy=>wpAny (model prog w) A (assign target env v) (fun _ s₂=>
     wpAny (model prog w) A (BY ifs env) (λok s₃=>
      if ok=true then wpAny (model prog w) A (eval elt env) (λx s₄=>
       wpAny (model prog w) A (call (.builtin "list.append") [acc,x]) (λ_ s₅=>∃m,m<n/\I m s₅) (λ_ _=>False) s₄) (λ_ _=>False) s₃
      else ∃m,m<n/\I m s₃) (λ_ _=>False) s₂) (λ_ _=>False) xy) (λ_ _=>False) s₁) (λ_ _=>False) s)(n:Nat)(h:I n s):
  codeAny (model prog w) A (.compLoop (.ListComp elt [⟨target,iter,ifs,0⟩] scope pos) 0 it acc env) R s:=by
 refine codeAny_loop rfl I (λn s hI=>?_) n h
 show wpAny _ A ((compTurn (.ListComp elt [⟨target,iter,ifs,0⟩] scope pos) 0 it acc env).onRaise (λx=>do noteFrame x env;theTreesLotGoes x)) _ _ s
 refine wpAny_noted ?_;rw[compTurn_list];refine Pi (wpAny_standAt (Pi (RB (turn n s hI) (λr s₁ h₁=>?_) λ_ _ h'=>h'.elim)));cases r with
 |none=>exact Px h₁
 |some v=>
  refine Pi (RB h₁ (λ_ xy ym=>?_) λ_ _ h'=>h'.elim);refine Pi (RB ym (λ_ s₂ h₂=>Pi (RB h₂ (λok s₃ h₃=>?_) λ_ _ h'=>h'.elim)) λ_ _ h'=>h'.elim);cases ok with
  |false=>exact Px ⟨rfl,h₃⟩
  |true=>
   exact Pi (Pi (RB h₃ (λx s₄ h₄=>Pi (RB h₄ (λ_ s₅ h₅=>Px (Px ⟨rfl,h₅⟩)) λ_ _ h'=>h'.elim)) λ_ _ h'=>h'.elim))
def fS(cells:List (Str×Addr)):List (Str×Sr)->List (Str×Addr)->List (Str×Addr)
 |[],cs=>cs
 |(n,k)::r,cs=>fS cells r (if(k == QA)=true then(n,(cells.lookup n).getD 0)::cs else cs)
theorem vE(h:∀y∈scope.names,y.2=QA->∃c,env.cells.lookup y.1=some c):closureFor scope env=pure (fS env.cells scope.names []):=by
 have go:∀(names:List (Str×Sr))(cs:List (Str×Addr)),(∀y∈names,y.2=QA->∃c,env.cells.lookup y.1=some c)->
   (forIn names cs λ(x:Str×Sr)(r:List (Str×Addr))=>match x with
    |(name,kind)=>if(kind == QA)=true then(do let y <-cellOf env name;pure (ForInStep.yield ((name,y)::r))) else(pure (ForInStep.yield r):Sem _))=(pure (fS env.cells names cs):Sem _):=by
  intro names
  induction names with
  |nil=>intro cs _;rfl
  |cons y r ih=>
   intro cs hy
   obtain⟨n,k⟩:=y
   rw[List.forIn_cons]
   have xa:=λPk=>ih Pk λy hm=>hy y (PK _ hm)
   by_cases hk:(k == QA)=true
   ·obtain⟨c,hc⟩:=hy (n,k) PN (by simpa using hk)
    have e1:cellOf env n=pure c:=by unfold cellOf;rw[show env.cells.lookup n=some c from hc]
    have e2:fS env.cells ((n,k)::r) cs=fS env.cells r ((n,c)::cs):=by
     show fS env.cells r (if(k == QA)=true then _ else _)=_
     rw[if_pos hk,show env.cells.lookup n=some c from hc];rfl
    rw[e2,<-xa ((n,c)::cs)]
    simp only[hk,if_true,e1,pure_bind]
   ·have e2:fS env.cells ((n,k)::r) cs=fS env.cells r cs:=by
     show fS env.cells r (if(k == QA)=true then _ else _)=_
     rw[if_neg hk]
    rw[e2,<-xa cs]
    simp only[hk,if_false,pure_bind]
    try rfl
 have:=go scope.names [] h
 unfold closureFor
 simpa using this
theorem rC{cells:List (Str×Addr)}{x:Str}{c:Addr}:∀(names:List (Str×Sr))(cs:List (Str×Addr)),(fS cells names cs).lookup x=some c->cs.lookup x=some c\/(∃y∈names,y.1=x/\y.2=QA/\c=(cells.lookup x).getD 0)
 |[],_,h=>.inl h
 |(n,k)::r,cs,h=>by
  rcases rC r _ h with h1|⟨y,hy,e⟩
  ·by_cases hk:(k == QA)=true
   ·rw[if_pos hk]at h1
    by_cases hx:x=n
    ·subst hx;simp only[P8,beq_self_eq_true]at h1;exact .inr ⟨(x,k),PN,rfl,by simpa using hk,(P4 h1).symm⟩
    ·have:(x == n)=false:=by simpa using hx
     simp only[P8,this]at h1;exact .inl h1
   ·rw[if_neg hk]at h1;exact .inl h1
  ·exact .inr ⟨y,PK _ hy,e⟩
theorem sQ{cells:List (Str×Addr)}{x:Str}:∀(names:List (Str×Sr))(cs:List (Str×Addr)),((∃c,cs.lookup x=some c)\/∃y∈names,y.1=x/\y.2=QA)->∃c,(fS cells names cs).lookup x=some c
 |[],_,h=>by
  rcases h with h|⟨y,hy,_⟩
  ·exact h
  ·cases hy
 |(n,k)::r,cs,h=>by
  refine sQ r _ ?_;rcases h with⟨c,h⟩|⟨y,hy,e1,e2⟩
  ·left
   by_cases hk:(k == QA)=true
   ·rw[if_pos hk]
    by_cases hx:x=n
    ·subst hx;simp[P8]
    ·have:(x == n)=false:=by simpa using hx
     exact⟨c,by simp only[P8,this];exact h⟩
   ·rw[if_neg hk];exact⟨c,h⟩
  ·rcases P5.mp hy with rfl|hy
   ·left;have hk:(k == QA)=true:=by simpa using e2
    rw[if_pos hk];have hx:n=x:=e1;subst hx;simp[P8]
   ·exact .inr ⟨y,hy,e1,e2⟩
def iO(os:Scope)(oN:List Str)(sc:Scope)(N:List Str)(js:List (Option Nat)):Bool:=
 (match sc.kind with|.function=>true|_=>false)&&sc.names.all (λy=>match y.2 with
  |.cell=>(match sc.names.lookup y.1 with|some .cell=>true|_=>false)
  |_=>true) &&
 sc.names.all (λy=>match y.2 with
  |.local=>(match sc.names.lookup y.1 with|some .local=>true|_=>false)
  |.free=>(match sc.names.lookup y.1,os.names.lookup y.1 with|some .free,some .cell=>true|some .free,some .free=>true|_,_=>false)
  |_=>true) &&
 js.length == N.length&&(js.zip N).all (λp=>match p.1 with
  |none=>true
  |some j=>(match oN[j]? with|some x=>decide (x=p.2)|none=>false)&&(match sc.names.lookup p.2 with|some .free=>true|_=>false))
structure JH(os:Scope)(oN:List Str)(sc:Scope)(N:List Str)(js:List (Option Nat)):Prop where
 kind:sc.kind=.function
 own:∀y∈sc.names,y.2=.cell->sc.names.lookup y.1=some .cell
 nm:∀y∈sc.names,y.2=.local->sc.names.lookup y.1=some .local
 fr:∀y∈sc.names,y.2=.free->os.names.lookup y.1=some .cell\/os.names.lookup y.1=some .free
 len:js.length=N.length
 cap:∀(i j:Nat),js[i]?=some (some j)->∃x,N[i]?=some x/\oN[j]?=some x/\sc.names.lookup x=some .free
variable{js:List (Option Nat)}{oN:List Str}{os sc:Scope}
theorem CZ(h:iO os oN sc N js=true):JH os oN sc N js:=by
 unfold iO at h;simp only[PZ]at h;obtain⟨⟨⟨⟨h1,h2⟩,h3⟩,h4⟩,h5⟩:=h;refine⟨?_,λy hy e=>?_,λy hy e=>?_,λy hy e=>?_,by simpa using h4,λi j e=>?_⟩
 ·cases hk:sc.kind <;> rw[hk]at h1 <;> first|rfl|exact absurd h1 PY
 ·have:=Qf.mp h2 y hy;rw[e]at this;dsimp only at this;cases hl:sc.names.lookup y.1 with
  |none=>rw[hl]at this;exact absurd this PY
  |some k=>cases k <;> rw[hl]at this <;> first|rfl|exact absurd this PY
 ·have:=Qf.mp h3 y hy;rw[e]at this;dsimp only at this;cases hl:sc.names.lookup y.1 with
  |none=>rw[hl]at this;exact absurd this PY
  |some k=>cases k <;> rw[hl]at this <;> first|rfl|exact absurd this PY
 ·have:=Qf.mp h3 y hy;rw[e]at this;dsimp only at this;cases hl:sc.names.lookup y.1 with
  |none=>rw[hl]at this;exact absurd this PY
  |some k=>
   rw[hl]at this;cases ho:os.names.lookup y.1 with
   |none=>rw[ho]at this;cases k <;> exact absurd this PY
   |some k'=>rw[ho]at this;cases k <;> cases k' <;> first|exact .inl rfl|exact .inr rfl|exact absurd this PY
 ·have hlen:js.length=N.length:=by simpa using h4
  obtain⟨hi,ej⟩:=Pv.mp e;have hN:i<N.length:=by omega
  have hz:(js.zip N)[i]?=some (some j,N[i]):=by
   rw[List.getElem?_zip_eq_some];exact⟨e,by simp[hN]⟩
  have:=Qf.mp h5 _ (Qp hz);simp only[PZ]at this;obtain⟨t1,t2⟩:=this;refine⟨N[i],by simp[hN],?_,?_⟩
  ·cases ho:oN[j]? with
   |none=>rw[ho]at t1;exact absurd t1 PY
   |some x=>rw[ho]at t1;rw[of_decide_eq_true t1]
  ·cases hl:sc.names.lookup N[i] with
   |none=>rw[hl]at t2;exact absurd t2 PY
   |some k=>rw[hl]at t2;cases k <;> first|rfl|exact absurd t2 PY
theorem cJ{κ:Type}{x:Str}{k:κ}:∀{l:List (Str×κ)},l.lookup x=some k->(x,k)∈l
 |[],h=>by simp at h
 |(n,v)::r,h=>by
  by_cases hx:x=n
  ·subst hx;simp only[P8,beq_self_eq_true]at h;cases h
   exact PN
  ·have:(x == n)=false:=by simpa using hx
   simp only[P8,this]at h;exact PK _ (cJ h)
theorem jZ{sc:Scope}{env:Env}:∀{names:List (Str×Sr)}{x:Str}{k:Sr},(names.map λ(n,k)=>if(k == QA&&env.scope.kind == .function&&env.kindOf n == some .cell) then(n,S9) else(n,k)).lookup x=some k->
  names.lookup x=some k\/(k=.cell/\names.lookup x=some .free)
 |[],_,_,h=>by simp at h
 |(n,q)::r,x,k,h=>by
  have ih:=@jZ sc env r x k
  by_cases hc:(q == QA&&env.scope.kind == .function&&env.kindOf n == some .cell)=true
  ·simp only[P0]at h;rw[if_pos hc]at h;have hq:q=.free:=by
    simp only[PZ]at hc;simpa using hc.1.1
   by_cases hx:x=n
   ·subst hx;simp only[P8,beq_self_eq_true]at h⊢;exact .inr ⟨(P4 h).symm,by rw[hq]⟩
   ·have e:(x == n)=false:=by simpa using hx
    simp only[P8,e]at h⊢;exact ih h
  ·simp only[P0]at h;rw[if_neg hc]at h
   by_cases hx:x=n
   ·subst hx;simp only[P8,beq_self_eq_true]at h⊢;exact .inl h
   ·have e:(x == n)=false:=by simpa using hx
    simp only[P8,e]at h⊢;exact ih h
theorem nW{env:Env}:∀{names:List (Str×Sr)}{x:Str},names.lookup x=some .free->
  (names.map λ(n,k)=>if(k == QA&&env.scope.kind == .function&&env.kindOf n == some .cell) then(n,S9) else(n,k)).lookup x=some .free\/
  (names.map λ(n,k)=>if(k == QA&&env.scope.kind == .function&&env.kindOf n == some .cell) then(n,S9) else(n,k)).lookup x=some .cell
 |[],_,h=>by simp at h
 |(n,q)::r,x,h=>by
  have ih:=@nW env r x
  by_cases hc:(q == QA&&env.scope.kind == .function&&env.kindOf n == some .cell)=true
  ·simp only[P0];rw[if_pos hc]
   by_cases hx:x=n
   ·subst hx;simp only[P8,beq_self_eq_true]
    first|exact .inr rfl|exact .inr trivial
   ·have e:(x == n)=false:=by simpa using hx
    simp only[P8,e]at h⊢;exact ih h
  ·simp only[P0];rw[if_neg hc]
   by_cases hx:x=n
   ·subst hx;simp only[P8,beq_self_eq_true]at h⊢;exact .inl h
   ·have e:(x == n)=false:=by simpa using hx
    simp only[P8,e]at h⊢;exact ih h
theorem aT:∀(names:List (Str×Sr))(n:Nat)(acc:List (Str×Addr)),QJ n names acc=QJ n names []++acc
 |[],_,_=>rfl
 |(x,k)::r,n,acc=>by
  unfold QJ;split
  ·rw[aT r _ ((x,n)::acc),aT r _ [(x,n)],List.append_assoc];rfl
  ·exact aT r n acc
set_option tactic.hygienic true in
theorem iP{x:Str}{c:Addr}:∀{names:List (Str×Sr)}{n:Nat},(x,c)∈QJ n names []->(x,S9)∈names
 |[],_,h=>by cases h
 |(y,k)::r,n,h=>by
  unfold QJ at h;split at h
  ·rename_i hk;rw[aT,Ql]at h;rcases h with h|h
   ·exact PK _ (iP h)
   ·have e:=Qe.mp h;have ex:x=y:=congrArg Prod.fst e;have ek:k=.cell:=by simpa using hk
    rw[ex,ek];exact PN
  ·exact PK _ (iP h)
theorem rD{α:Type}{x:Str}{c:α}:∀{l:List (Str×α)},(x,c)∈l->∃d,l.lookup x=some d
 |(y,d)::r,h=>by
  by_cases e:x=y
  ·subst e;exact⟨d,by simp[P8]⟩
  ·have z:(x == y)=false:=by simpa using e
   rcases P5.mp h with q|q
   ·exact absurd (congrArg Prod.fst q) e
   ·obtain⟨d',hd⟩:=rD q;exact⟨d',by simp only[P8,z];exact hd⟩
theorem eW{x:Str}:∀{names:List (Str×Sr)}{n:Nat},(x,S9)∈names->∃c,(QJ n names []).lookup x=some c
 |(y,k)::r,n,h=>by
  have go:∃c,(x,c)∈QJ n ((y,k)::r) []:=by
   rcases P5.mp h with q|q
   ·have ex:x=y:=congrArg Prod.fst q;have ek:k=.cell:=(congrArg Prod.snd q).symm;refine⟨n,?_⟩;unfold QJ;rw[if_pos (by rw[ek];rfl),aT,ex];exact PM _ PN
   ·unfold QJ;split
    ·obtain⟨c,hc⟩:=eW (n:=n+1) q;rw[aT];exact⟨c,Qx _ (mem_of_lookup hc)⟩
    ·obtain⟨c,hc⟩:=eW (n:=n) q;exact⟨c,mem_of_lookup hc⟩
  obtain⟨c,hc⟩:=go;exact rD hc
theorem nX{α:Type}{x:Str}:∀{l r:List (Str×α)},(l++r).lookup x=(l.lookup x).or (r.lookup x)
 |[],_=>by simp
 |(y,d)::l,r=>by
  have ih:=nX (x:=x) (l:=l) (r:=r);cases e:x == y with
  |true=>simp[P8,e]
  |false=>simp only[List.cons_append,P8,e];exact ih
variable{M:Model}{builtins globals:Addr}{closure:List (Str×Addr)}{code:Value}{func:Option Addr}
theorem pO{outer:Env}{Q:Env->Shared->Prop}(hQ:Q (newEnv scope s.heap.objs.size globals (QJ (s.heap.objs.size+1) scope.names closure) qual func code (some outer) builtins) { s with heap:=pushCells (s.heap.push { cls:=.type "dict",data:=.dict #[] }) scope.names }):
  wpAny M A (newFunctionEnv scope globals closure [] qual func code (some outer) builtins) Q E s:=by
 simp only[newFunctionEnv,Ss,if_true];refine Pi (wpAny_alloc ?_);refine Pi (wpAny_layCells _ (λname kind cells=>by cases hkc:kind == S9 <;> simp[hkc]) _ _ _ _ ?_);rw[show({ s with heap:=s.heap.push { cls:=.type "dict",data:=.dict #[] } }:Shared).heap.objs.size=s.heap.objs.size+1 from Sl ..]
 rw[List.forIn_nil];exact Pi (Px (Px hQ))
def Cx.comp(X:Cx)(sc:Scope)(N:List Str)(C:Addr)(fp:List Addr)(s₀:Shared)(H₀:Hp):Cx:=
 { X with N:=N,s₀:=s₀,H₀:=H₀,env:=compEnvC sc (QJ (C+1) sc.names (fS X.env.cells sc.names [])) C X.env,outer:=X.stack,ex:=fp,fn:=λx=>(match sc.names.lookup x with|some .cell=>true|_=>false),pn:=[],xe:=λ_ _=>False }
def B5:St->Nat->Option V
 |[],_=>none
 |x::_,0=>x
 |_::r,n+1=>B5 r n
theorem sR:∀{σ:St}{i:Nat}{v:V},B5 σ i=some v->σ[i]?=some (some v)
 |[],_,_,h=>by cases h
 |x::_,0,v,h=>by
  have h':x=some v:=h;simp[h']
 |_::r,n+1,v,h=>by
  rw[Rh];exact sR (σ:=r) (i:=n) h
def iQ(js:List (Option Nat))(σ:St):St:=js.map λo=>match o with
 |none=>none
 |some j=>B5 σ j
variable{i:Nat}
theorem GT(h:(iQ js σ)[i]?=some (some v)):∃j,js[i]?=some (some j)/\σ[j]?=some (some v):=by
 unfold iQ at h;rw[PQ]at h;cases e:js[i]? with
 |none=>rw[e]at h;cases h
 |some o=>
  rw[e]at h;cases o with
  |none=>cases h
  |some j=>exact⟨j,rfl,sR (P4 h)⟩
def PTs(X:Cx)(ifs:List Expr)(t:TT):Prop:=
 ∀(pins:List (Addr×Obj))(s:Shared)(σ:St)(H:Hp)(Q:Bool->Hp->Prop),Inv X pins σ H s->t σ H Q->wpAny (model X.prog X.w) X.A (BY ifs X.env) (TP X pins σ Q) X.xe s
def Lz:TT:=λ_ H Q=>Q true H
theorem GU:PTs X [] Lz:=λ_ _ _ H _ I h=>wpAny_tests_nil ⟨H,I,h⟩
theorem GV{c:Expr}{t:TT}(h:PT X c t):PTs X [c] t:=λpins s σ H Q I q=>wpAny_tests_one (h pins s σ H Q I q)
def IR(js:List (Option Nat))(g:TG)(tt:TT)(te:TE)(σ:St)(acc:Addr)(x:V)(H:Hp)(N:Hp->Prop):Prop:=g x (iQ js σ) H λσ2 H4=>tt σ2 H4 λb H5=>
   if b=true then te σ2 H5 λv H6=>∃ys,H6 acc=some (.lst ys)/\ys.length<PP/\N (upd H6 acc (.lst (ys++[v]))) else N H5
def BZ(js:List (Option Nat))(wi:TI)(g:TG)(tt:TT)(te:TE):TE:=λσ H Q=>wi σ H λJ H1=>∀acc,H1 acc=none->
 ∃W:Nat->Nat->Hp->Prop,(∃m,W 0 m (upd H1 acc (.lst [])))/\∀i m H2,W i m H2->
  (J.stop i H2/\Q (.ref acc) H2)\/(J.go i H2/\∃N:Hp->Prop,(∀H',N H'->∃m',m'<m/\W (i+1) m' H')/\∀x H3,J.yld i H2 x H3->IR js g tt te σ acc x H3 N)
structure Off(X:Cx)(pins:List (Addr×Obj))(H:Hp)(C:Addr)(s:Shared):Prop where
 ns:∃m,s.heap.Ns C m
 none:H C=none
 loc:C≠X.env.locals
 new:X.s₀.heap.objs.size<=C
 cells:∀x c,X.env.cells.lookup x=some c->c≠C
 pins:∀p∈X.pn++pins,p.1≠C
theorem Off.go{C:Addr}(o:Off X pins H C s)(I:Inv X pins σ H s)(hs:Ra C s.heap h'):Inv X pins σ H { s with heap:=h' }:=
 I.turned (t':=s.toks) (λb ob hb e=>(hs.2 b hb).trans e) o.none o.loc (.inr o.new) o.cells o.pins
variable{Q0:Value->Shared->Prop}{te:TE}{tg:Expr}{tt:TT}{use:Option (Value->Sem Unit)}{wi:TI}
theorem vV{elt:Expr}{g:TG}(hc:X.calm=true)(d8:X.env.scope=os)(jf:X.N=oN)(ok:iO os oN sc N js=true)(hi:PI X tg iter wi)(hg:∀C fp s₀ H₀,PG (X.comp sc N C fp s₀ H₀) tg g)(ht:∀C fp s₀ H₀,PTs (X.comp sc N C fp s₀ H₀) ifs tt)(he:∀C fp s₀ H₀,PE (X.comp sc N C fp s₀ H₀) elt te){Q:VK}(I:Inv X pins σ H s)(h:BZ js wi g tt te σ H Q)(t9:∀acc C s6 H6,Inv X pins σ H6 s6->Off X pins H6 C s6->Q (.ref acc) H6->compPost (model X.prog X.w) X.A X.xe use Q0 (.ref acc) C (.ok .next) s6)(hs:∀x,Rb iter X.env x=pure x:=by intro _;rfl):
  wpAny (model X.prog X.w) X.A (comprehension (.ListComp elt [⟨tg,iter,ifs,0⟩] sc pos) sc X.env (firstIterPos [⟨tg,iter,ifs,0⟩] pos) (newList []) false (eval iter X.env) use) Q0 X.xe s:=by
 have S:=CZ ok;subst d8 jf;have xp:∀y∈sc.names,y.2=QA->∃c,X.env.cells.lookup y.1=some c:=λy hy e=>I.ok.has y.1 (S.fr y hy e);have jx:∀x c,(fS X.env.cells sc.names []).lookup x=some c->X.env.cells.lookup x=some c:=λx c e=>by
  rcases rC _ _ e with z|⟨y,hy,e1,e2,e3⟩
  ·cases z
  ·obtain⟨d,hd⟩:=xp y hy e2;rw[e1]at hd;rw[hd]at e3;rw[hd,e3];rfl
 refine wpAny_comprehension_free (use:=use) rfl hs (vE xp) S.kind S.nm (thn (hi pins s σ H _ I h) λv s1 h1=>thn h1 λuq s2 h2=>?_);obtain⟨it,fp,tn,J,H2,e,I2,T,o4,f2,q⟩:=h2;subst e;obtain⟨W,⟨m0,w0⟩,turn⟩:=q s2.heap.objs.size I2.fresh;refine Qm (pO ?_);have I3:Inv X pins σ (upd H2 s2.heap.objs.size (.lst [])) { s2 with heap:=s2.heap.push { cls:=.type "list",data:=.seq ([]:List Value).toArray },toks:=s2.toks }:=I2.lnew (its:=[]) (ys:=[]) .nil (Qd _);generalize Pw:upd H2 s2.heap.objs.size (HO.lst [])=H3 at w0 I3;generalize z8:({ s2 with heap:=s2.heap.push { cls:=.type "list",data:=.seq ([]:List Value).toArray },toks:=s2.toks }:Shared)=s3 at I3;have Pg:({ s2 with heap:=s2.heap.push { cls:=.type "list",dict:=none,data:=.seq ([]:List Value).toArray } }:Shared)=s3:=z8;have wq:s2.heap.push { cls:=.type "list",dict:=none,data:=.seq ([]:List Value).toArray }=s3.heap:=by rw[<-Pg]
 (try rw[wq])
 have hC:∀b o,s3.heap.get? b=some o->b≠s3.heap.objs.size:=λb o e=>P9 (PU e);have old:∀b o,s3.heap.get? b=some o->(pushCells (s3.heap.push { cls:=.type "dict",data:=.dict #[] }) sc.names).get? b=some o:=λb o e=>pushCells_keeps _ _ b o (PB _ e);have nj:(pushCells (s3.heap.push { cls:=.type "dict",data:=.dict #[] }) sc.names).Ns s3.heap.objs.size (λ_=>none):=(Heap.Ns.new s3.heap (.type "dict")).keeps (pushCells_keeps _ _);have ow:=cellsFrom_ok sc.names (s3.heap.push { cls:=.type "dict",data:=.dict #[] }) (s3.heap.objs.size+1) [] ⟨λ_ _ hm=>(nomatch hm),List.Pairwise.nil⟩ (by rw[Sl];exact PD _);rw[Sl]at ow;generalize pushCells (s3.heap.push { cls:=.type "dict",data:=.dict #[] }) sc.names=h₁ at old nj ow⊢;have nc:∀{x c},(QJ (s3.heap.objs.size+1) sc.names (fS X.env.cells sc.names [])).lookup x=some c->((x,c)∈QJ (s3.heap.objs.size+1) sc.names []/\h₁.IsCell c none/\s3.heap.objs.size+1<=c)\/(X.env.cells.lookup x=some c/\c<s3.heap.objs.size):=λ{x c} e=>by
  rw[aT,nX]at e;cases eo:(QJ (s3.heap.objs.size+1) sc.names []).lookup x with
  |some d=>
   rw[eo]at e;cases e
   have:=mem_of_lookup eo;exact .inl ⟨this,ow.empty x c this⟩
  |none=>
   rw[eo]at e;have e:=jx x c e;obtain⟨v,z⟩:=I3.cell x c e;exact .inr ⟨e,z.lt⟩
 have wt:∀{x c},sc.names.lookup x=some .free->(fS X.env.cells sc.names []).lookup x=some c->(QJ (s3.heap.objs.size+1) sc.names (fS X.env.cells sc.names [])).lookup x=some c:=λ{x c} hf e=>by
  rw[aT,nX];cases eo:(QJ (s3.heap.objs.size+1) sc.names []).lookup x with
  |some d=>
   have:=S.own _ (iP (mem_of_lookup eo)) rfl;rw[hf]at this;cases this
  |none=>exact e
 have oe:tn 0 s3.heap:=T.keep 0 _ _ o4 λb hb o e=>by
  rw[<-wq];exact PB _ e
 have uz:∀b∈fp,∃o,s3.heap.get? b=some o/\∀v,o.data≠.cell v:=T.obj 0 _ oe;have f3:∀b∈fp,zZ X pins H3 b:=λb hb=>by
  obtain⟨o,ho,_⟩:=T.obj 0 _ o4 b hb;refine⟨?_,(f2 b hb).2⟩;rw[<-Pw,aH (P9 (PU ho))];exact(f2 b hb).1
 -- the block's context
 have pb:(X.comp sc N s3.heap.objs.size fp s3 H3).Ok:=by
  refine⟨I.ok.mod,S.kind,I.ok.glob,I.ok.blt,PD _,λx y c e1 e2=>?_,λx hx=>?_,λx c z e=>?_,I.ok.hd,I.ok.frames,.inl rfl,λb hb=>?_,I3.bs,
   Qb I.ok.bsz I3.sz,λb o e hb=>?_,λb hb hf=>?_,I3.stack,I3.stkFree⟩
  ·rcases nc e1 with⟨m1,_,g1⟩|⟨z1,g1⟩ <;> rcases nc e2 with⟨m2,_,g2⟩|⟨z2,g2⟩
   ·exact name_of_addr ow.apart m1 m2
   ·exact absurd (P6 g2 (Nat.le_of_succ_le g1)) (Q8 _)
   ·exact absurd (P6 g1 (Nat.le_of_succ_le g2)) (Q8 _)
   ·exact I.ok.inj x y c z1 z2
  ·have fr:sc.names.lookup x=some .free->∃c,(QJ (s3.heap.objs.size+1) sc.names (fS X.env.cells sc.names [])).lookup x=some c:=λhf=>
    let ⟨c,hc⟩:=sQ (cells:=X.env.cells) (x:=x) sc.names [] (.inr ⟨_,cJ hf,rfl,rfl⟩)
    ⟨c,wt hf hc⟩
   have fin:∀{k},(relabel sc X.env).names.lookup x=some k->(k=.cell\/k=.free)->∃c,(QJ (s3.heap.objs.size+1) sc.names (fS X.env.cells sc.names [])).lookup x=some c:=λ{k} e hk=>by
    rcases jZ (sc:=sc) e with z|⟨_,z⟩
    ·rcases hk with rfl|rfl
     ·obtain⟨c,hc⟩:=eW (n:=s3.heap.objs.size+1) (cJ z);exact⟨c,by rw[aT,nX,hc];rfl⟩
     ·exact fr z
    ·exact fr z
   rcases hx with hx|hx
   ·exact fin hx (.inl rfl)
   ·exact fin hx (.inr rfl)
  ·have z:sc.names.lookup x=some .cell:=by
    have z:(match sc.names.lookup x with|some .cell=>true|_=>false)=true:=z
    split at z
    ·assumption
    ·cases z
   have e:(QJ (s3.heap.objs.size+1) sc.names (fS X.env.cells sc.names [])).lookup x=some c:=e;obtain⟨d,hd⟩:=eW (n:=s3.heap.objs.size+1) (cJ z);rw[aT,nX,hd]at e;cases e
   exact Nat.le_of_succ_le (ow.empty x c (mem_of_lookup hd)).2
  ·obtain⟨o,ho,_⟩:=uz b hb;refine⟨hC b o ho,λx c e=>?_⟩;rcases nc e with⟨_,_,g1⟩|⟨z1,_⟩
   ·exact Sd (P6 (PU ho) (Nat.le_of_succ_le g1))
   ·exact(f3 b hb).2.2.2.2.1 x c z1
  ·rcases(f3 b hb).2.2.2.1 with z|z
   ·exact I.ok.noex b o e z
   ·exact absurd (P6 (PU e) (Qb I.ok.bsz z)) (Q8 _)
  ·rcases P5.mp (I3.stkSub b hf) with z|z
   ·exact(f3 b hb).2.1 z
   ·exact(f3 b hb).2.2.1 z
 -- what the block takes from around it
 have om:∀(i:Nat)(x:Str)(v:V),N[i]?=some x->(iQ js σ)[i]?=some (some v)->∃u c o,RelV v u/\((compEnvC sc (QJ (s3.heap.objs.size+1) sc.names (fS X.env.cells sc.names [])) s3.heap.objs.size X.env).kindOf x=some .cell\/(compEnvC sc (QJ (s3.heap.objs.size+1) sc.names (fS X.env.cells sc.names [])) s3.heap.objs.size X.env).kindOf x=some .free)/\
   (QJ (s3.heap.objs.size+1) sc.names (fS X.env.cells sc.names [])).lookup x=some c/\s3.heap.get? c=some o/\o.data=.cell (some u)/\H3 c=none/\c∉fp:=by
  intro i x v hN hv;obtain⟨j,hj,hσ⟩:=GT hv;obtain⟨x',f7,ho,hf⟩:=S.cap i j hj;rw[hN]at f7;cases f7;obtain⟨m,hn,hl⟩:=I3.loc;have qw:Vis X.env.scope x:=by
   rcases S.fr _ (cJ hf) rfl with z|z
   ·exact .inr (.inl z)
   ·exact .inr (.inr z)
  obtain⟨u,r,l⟩:=hl j x v ho hσ qw;obtain⟨c,m5⟩:=sQ (cells:=X.env.cells) (x:=x) sc.names [] (.inr ⟨_,cJ hf,rfl,rfl⟩);have ub:=jx x c m5;have dt:s3.heap.IsCell c (some u):=by
   rcases l with⟨k,_⟩|⟨_,c',e,z⟩
   ·exfalso;rcases S.fr _ (cJ hf) rfl with z|z
    ·have k':X.env.scope.names.lookup x=some .local:=k;rw[z]at k';cases k'
    ·have k':X.env.scope.names.lookup x=some .local:=k;rw[z]at k';cases k'
   ·rw[ub]at e;cases e;exact z
  obtain⟨o,dr,hd⟩:=dt;refine⟨u,c,o,r,?_,wt hf m5,dr,hd,I3.freeC x c ub,λhb=>(f3 c hb).2.2.2.2.1 x c ub rfl⟩;exact(nW (env:=X.env) hf).symm
 -- at any state of the block,its names as at its start
 have m9:∀{cz:List (Addr×Obj)}{σ8:St}{H8:Hp}{s8:Shared},Inv (X.comp sc N s3.heap.objs.size fp s3 H3) cz σ8 H8 s8->Inv (X.comp sc N s3.heap.objs.size fp s3 H3) [] (iQ js σ) H8 s8:=λ{cz σ8 H8 s8} I8=>by
  refine⟨I8.ok,I8.os,I8.bare,I8.base,?_,I8.cell,I8.free,I8.freeC,λp hp=>by simp[Cx.comp]at hp,I8.hok,?_⟩
  ·obtain⟨m,hn,_⟩:=I8.loc;refine⟨m,hn,λi x v hN hv _=>?_⟩;obtain⟨u,c,o,r,k,hl,ho,hd,zo,Pn⟩:=om i x v hN hv;refine⟨u,r,.inr ⟨k,c,hl,?_⟩⟩;obtain⟨sl,e⟩:=I8.base.any ho zo Pn;exact⟨_,e,hd⟩
  ·show(iQ js σ).length=N.length
   unfold iQ;rw[PC,S.len]
 have I4:Inv (X.comp sc N s3.heap.objs.size fp s3 H3) [] (iQ js σ) H3 { s3 with heap:=h₁ }:=by
  refine⟨pb,rfl,I3.bare,Un.kept old,⟨_,nj,λi x v hN hv _=>?_⟩,λx c e=>?_,I3.fresh,λx c e=>?_,λp hp=>by simp[Cx.comp]at hp,I3.hok.kept old,?_⟩
  ·obtain⟨u,c,o,r,k,hl,ho,hd,_,_⟩:=om i x v hN hv;exact⟨u,r,.inr ⟨k,c,hl,o,old c o ho,hd⟩⟩
  ·rcases nc e with⟨_,g1,_⟩|⟨z1,_⟩
   ·exact⟨_,g1⟩
   ·obtain⟨v,o,ho,hd⟩:=I3.cell x c z1;exact⟨v,o,old c o ho,hd⟩
  ·rcases nc e with⟨_,_,g1⟩|⟨z1,_⟩
   ·exact I3.hok.fresh (by omega)
   ·exact I3.freeC x c z1
  ·show(iQ js σ).length=N.length
   unfold iQ;rw[PC,S.len]
 have vp:tn 0 h₁:=T.keep 0 _ _ oe λb hb o e=>old b o e;have kz:∀{H':Hp},(∀b∈fp,H' b=none)->∀b∈fp,zZ (X.comp sc N s3.heap.objs.size fp s3 H3) [] H' b:=λ{H'} hn b hb=>
  ⟨hn b hb,(pb.exf b hb).1,pb.exfs b hb,.inl hb,(pb.exf b hb).2,λp hp=>by simp[Cx.comp]at hp⟩
 have fin:∀(s6:Shared)(H6:Hp),Inv (X.comp sc N s3.heap.objs.size fp s3 H3) [] (iQ js σ) H6 s6->Q (.ref s2.heap.objs.size) H6->compPost (model X.prog X.w) X.A X.xe use Q0 (.ref s2.heap.objs.size) s3.heap.objs.size (.ok .next) s6:=λs6 H6 I6 q6=>by
  have I7:Inv X pins σ H6 s6:=I3.call' (ch:=fp) I6.os I6.base I6.hok I6.bare λb hb=>⟨(f3 b hb).2.2.2.1,(f3 b hb).2.1,(f3 b hb).2.2.2.2.1,(f3 b hb).2.2.2.2.2⟩;refine t9 _ _ _ _ I7 ⟨let ⟨m,hn,_⟩:=I6.loc;⟨m,hn⟩,I6.free,Sd I3.lt,I3.sz,λx c e=>?_,λp hp=>?_⟩ q6
  ·obtain⟨v,z⟩:=I3.cell x c e;exact P9 z.lt
  ·exact P9 (PU (I3.pin p hp).1)
 have loop:codeAny (model X.prog X.w) X.A (.compLoop (.ListComp elt [⟨tg,iter,ifs,0⟩] sc pos) 0 (.ref it) (.ref s2.heap.objs.size) (compEnvC sc (QJ (s3.heap.objs.size+1) sc.names (fS X.env.cells sc.names [])) s3.heap.objs.size X.env))
   (compPost (model X.prog X.w) X.A X.xe use Q0 (.ref s2.heap.objs.size) s3.heap.objs.size) { s3 with heap:=h₁ }:=by
  refine xZ (λn s'=>∃i H',Inv (X.comp sc N s3.heap.objs.size fp s3 H3) [] (iQ js σ) H' s'/\tn i s'.heap/\(∀b∈fp,H' b=none)/\W i n H') ?_ m0 ⟨0,H3,I4,vp,λb hb=>(f3 b hb).1,w0⟩;rintro n s5 ⟨i,H5,I5,lp,i9,w5⟩;rcases turn i n H5 w5 with⟨stop,qn⟩|⟨go,Nn,hN,step⟩
  ·refine thn (T.done (X.comp sc N s3.heap.objs.size fp s3 H3) rfl rfl rfl hc i [] s5 (iQ js σ) H5 (λ_ _=>False) I5 (kz i9) lp stop) λr s6 ⟨hr,I6⟩=>?_;subst hr;exact fin s6 H5 I6 qn
  ·refine thn (T.item (X.comp sc N s3.heap.objs.size fp s3 H3) rfl rfl rfl hc i [] s5 (iQ js σ) H5 (λ_ _=>False) I5 (kz i9) lp go) λr s6 ⟨u,hr,h6⟩=>?_;subst hr;refine thn h6 λ_ s7 hz=>?_;obtain⟨x,H7,I7,r7,y7,ur,Pc⟩:=hz;have yc:=I7.pinned (kz Pc) (T.obj _ _ ur);refine thn (hg _ _ _ _ _ s7 _ H7 x u _ yc r7 (step x H7 y7)) λ_ s8 ⟨σ8,H8,I8,q8⟩=>?_;refine thn (ht _ _ _ _ _ s8 σ8 H8 _ I8 q8) λb s9 ⟨H9,I9,q9⟩=>?_;have again:∀{σ':St}{H':Hp}{s':Shared},Inv (X.comp sc N s3.heap.objs.size fp s3 H3) ([]++sI fp s7.heap) σ' H' s'->Nn H'->∃m,m<n/\∃i H',Inv (X.comp sc N s3.heap.objs.size fp s3 H3) [] (iQ js σ) H' s'/\tn i s'.heap/\(∀b∈fp,H' b=none)/\W i m H':=λ{σ' H' s'} I' n'=>by
    obtain⟨m',hm,w'⟩:=hN H' n';refine⟨m',hm,i+1,H',m9 I',T.keep _ _ _ ur λb hb o e=>(I'.pin (b,o) (PM _ (PM _ (iN hb e)))).1,λb hb=>?_,w'⟩;obtain⟨o,e,d⟩:=T.obj _ _ ur b hb;exact(I'.pin (b,o) (PM _ (PM _ (iN hb e)))).2.1
   cases b with
   |false=>exact again I9 q9
   |true=>
    refine thn (he _ _ _ _ _ s9 σ8 H9 _ I9 q9) λu' s10 ⟨v,H10,I10,rv,ys,az,hz,n10⟩=>?_;refine thn (vR (X:=X.comp sc N s3.heap.objs.size fp s3 H3) _ s10 σ8 H10 (.ref s2.heap.objs.size) [v] (.ref s2.heap.objs.size) [u'] (λ_ H'=>Nn H') I10 rfl (.cons rv .nil) ⟨_,ys,v,rfl,rfl,az,hz,n10⟩) λ_ s11 ⟨_,H11,I11,_,n11⟩=>?_;exact again I11 n11
 exact codeAny_compStart_list loop (T.self X.A 0 _ _ _ vp loop)
theorem GW{elt:Expr}{g:TG}(hc:X.calm=true)(d8:X.env.scope=os)(jf:X.N=oN)(ok:iO os oN sc N js=true)(hi:PI X tg iter wi)(hg:∀C fp s₀ H₀,PG (X.comp sc N C fp s₀ H₀) tg g)(ht:∀C fp s₀ H₀,PTs (X.comp sc N C fp s₀ H₀) ifs tt)(he:∀C fp s₀ H₀,PE (X.comp sc N C fp s₀ H₀) elt te)(hs:∀x,Rb iter X.env x=pure x:=by intro _;rfl):PE X (.ListComp elt [⟨tg,iter,ifs,0⟩] sc pos) (BZ js wi g tt te):=by
 intro pins s σ H Q I h;rw[eval_ListComp];refine vV (use:=none) hc d8 jf ok hi hg ht he I h (λacc C s6 H6 I6 o q=>?_) hs;exact⟨o.ns.choose,o.ns.choose_spec,λh' fv=>⟨.ref acc,H6,o.go I6 fv,rfl,q⟩⟩
variable{da pos':Pos}
theorem B6{elt:Expr}{g:TG}(hN:X.N.Nodup)(f7:X.N[i]?=some x)(ji:X.env.scope.names.lookup x=some .local)(hc:X.calm=true)(d8:X.env.scope=os)(jf:X.N=oN)(ok:iO os oN sc N js=true)(hi:PI X tg iter wi)(hg:∀C fp s₀ H₀,PG (X.comp sc N C fp s₀ H₀) tg g)(ht:∀C fp s₀ H₀,PTs (X.comp sc N C fp s₀ H₀) ifs tt)(he:∀C fp s₀ H₀,PE (X.comp sc N C fp s₀ H₀) elt te)(oa:S8 (.ListComp elt [⟨tg,iter,ifs,0⟩] sc pos) (some (.Name x pos')) da.line X.env=pure true:=by rfl)(hs:∀x,Rb iter X.env x=pure x:=by intro _;rfl):PS X (.Assign [.Name x pos'] (.ListComp elt [⟨tg,iter,ifs,0⟩] sc pos) da) (Jf (BZ js wi g tt te) (E1 i)):=by
 intro pins s σ H D I h
 rw[exec_Assign_Name_used _ _ _ _ oa]
 refine Pi (wpAny_standAt (Pi ?_))
 show wpAny _ X.A (do let _ <-comprehension (.ListComp elt [⟨tg,iter,ifs,0⟩] sc pos) sc X.env _ (newList []) false (eval iter X.env) (some (assign (.Name x pos') X.env))) _ _ s
 refine Pi (thn (vV (use:=some (assign (.Name x pos') X.env)) (Q0:=λ_ s'=>SP X pins D .next s') hc d8 jf ok hi hg ht he I h (λacc C s6 H6 I6 o q=>?_) hs) λ_ s' hq=>Px (Px hq))
 show wpAny _ X.A (assign (.Name x pos') X.env (.ref acc)) _ _ _
 refine wpAny_assign_Name (vL I6 hN f7 (.inl ji) (v:=.ref acc) rfl (λs7 I7 ⟨a,hs7,ha⟩=>?_) (.inr ji))
 have vg:C≠a:=by
  rcases ha with rfl|ha
  ·exact o.loc
  ·exact λe=>o.cells x a ha e.symm
 obtain⟨m,hn⟩:=o.ns
 have o7:Off X pins H6 C s7:=⟨⟨m,hn.sameBut hs7 vg⟩,o.none,o.loc,o.new,o.cells,o.pins⟩
 exact⟨m,hn.sameBut hs7 vg,λh' fv=>⟨_,H6,o7.go I7 fv,q⟩⟩
def LA:V->Option Int->Option Int->Hp->VK->Prop:=λx lo hi H Q=>∃z,x=.str z/\z.length<=PP/\Q (.str (Sv z lo hi)) H
theorem part_of{v:Value}{o:Option Int}(h:IsPart v o):∃p:Option (Int×Tok),v=partValue p/\p.map (·.1)=o:=by
 cases h with
 |none=>exact⟨none,rfl,rfl⟩
 |int i t=>exact⟨some (i,t),rfl,rfl⟩
theorem JJ:SlR X LA:=by
 intro pins s σ H x v vl vu lo hi sl Q I rx hs pl pu h;obtain⟨z,rfl,hz,q⟩:=h;obtain⟨t,rfl⟩:=rx;obtain⟨l,rfl,rfl⟩:=part_of pl;obtain⟨u,rfl,rfl⟩:=part_of pu;obtain⟨o,ho,hc,hd⟩:=hs;refine⟨"str",_,PySem.F.slot_str_getitem.lookup,typeIs_str s z t,?_⟩;refine wpAny_getItem_str_slice (l:=l) (u:=u) (st:=none) ⟨o,ho,hc,hd⟩ rfl ?_;have e:sliceMade z t l u none=if((1:Int) == 1&&(Sw (l.map (·.1)) (u.map (·.1)) 1 z.length).length == z.length)=true then Made.val (.str z t) else Made.str ⟨((Sw (l.map (·.1)) (u.map (·.1)) 1 z.length).filterMap (z.cps[·]?)).toArray⟩:=rfl;have hle:=Txt.slice_le z (l.map (·.1)) (u.map (·.1));unfold Sv at q hle;rw[e]
 by_cases ot:((1:Int) == 1&&(Sw (l.map (·.1)) (u.map (·.1)) 1 z.length).length == z.length)=true
 ·rw[if_pos ot]at q⊢;exact⟨.str z,H,I,⟨t,rfl⟩,q⟩
 ·rw[if_neg ot]at q hle⊢;exact⟨Qb hle hz,.str _,H,I.tok _,⟨_,rfl⟩,q⟩
theorem sT:∀{ss:List Str}{us:List Value},aI (ss.map V.str) us->StrsAre us ss
 |[],_,r=>by cases r;exact .nil
 |x::ss,_,r=>by
  cases r with
  |cons h t=>
   obtain⟨tk,rfl⟩:=h;exact .cons x tk (sT t)
theorem vW:∀{us:List Value}{ss:List Str},StrsAre us ss->aI (ss.map V.str) us
 |_,_,.nil=>.nil
 |_,_,.cons x t h=>.cons ⟨t,rfl⟩ (vW h)
theorem pP:bS X (.builtin "sorted") (λxs H Q=>∃p ss,xs=[.ref p]/\SqL X.K H p (ss.map V.str)/\ss.length<64/\
  ∀l f9,H l=none->f9.Perm ss->sortedS f9=true->Q (.ref l) (upd H l (.lst (f9.map V.str)))):=by
 intro pins s σ H xs us Q I r h;obtain⟨p,ss,rfl,hq,fg,q⟩:=h;obtain⟨u,rfl,ru⟩:=vals1 r;cases ru
 obtain⟨its,rv,pl,hz⟩:=I.list hq;have hlen:=rv.length;rw[PC]at hlen;refine sorted_strs pl.isList (sT rv) (by omega) λout f9 a1 a2 a3=>?_;obtain⟨e,he⟩:=sortedAll_at s.heap its out;refine⟨.ref (s.heap.objs.size+1),_,I.laid (t':=s.toks) (o:=.lst (f9.map V.str)) (λb ob h=>sortedAll_old h) (Q9 _) ?_,rfl,q _ f9 (I.hok.fresh (Q9 _)) a2 a3⟩;refine⟨?_,out.toList,e,vW a1,by rw[he]⟩;rw[PC,a2.length_eq];exact Rt (Nat.lt_trans fg (by decide))
variable{es:List Expr}
theorem gT{k:Nat}{t:TGs}(K:Py)(hK:X.K=K)(hc:X.calm=true)(h:PGs X es t)(hn:(RS es X.env).length=n:=by rfl)(e7:(RS es X.env).findIdx? (·.1)=none:=by rfl):PG X (.Tuple es k pos) (Lg K n t):=by subst hK;exact Je hc h hn e7
variable{e:Expr}{f:Value->Value->Sem Value}{g:Int->Int->Int}
section
variable{a b:Expr}{t t' tb:TE}
theorem PE.imp(h:PE X e t)(i:∀σ H Q,t' σ H Q->t σ H Q):PE X e t':=λpins s σ H Q I q=>h pins s σ H Q I (i σ H Q q)
theorem PT.imp{t t':TT}(h:PT X e t)(i:∀σ H Q,t' σ H Q->t σ H Q):PT X e t':=λpins s σ H Q I q=>h pins s σ H Q I (i σ H Q q)
theorem OpR.imp{r r':R2}(h:OpR X f r)(i:∀x y H Q,r' x y H Q->r x y H Q):OpR X f r':=λpins s σ H x y v u Q I rx ry q=>h pins s σ H x y v u Q I rx ry (i x y H Q q)
theorem bS.imp{f:Value}{r r':List V->Hp->VK->Prop}(h:bS X f r)(i:∀xs H Q,r' xs H Q->r xs H Q):bS X f r':=λpins s σ H xs us Q I rx q=>h pins s σ H xs us Q I rx (i xs H Q q)
def cV(i:Nat):TE:=λσ H Q=>match B5 σ i with
 |some v=>Q v H
 |none=>False
theorem cv(i:Nat)(hN:X.N[i]?=some x:=by rfl)(hv:Vis X.env.scope x:=by first|exact Or.inl rfl|exact Or.inr (Or.inl rfl)|exact Or.inr (Or.inr rfl))(hd:(x == ("__debug__" : Str))=false:=by decide)(fh:(x == ("__classdict__" : Str))=false:=by decide):PE X (.Name x pos) (cV i):=by
 refine(DX hN hv hd fh).imp λσ H Q h=>?_;unfold cV at h;cases e:B5 σ i with
 |none=>rw[e]at h;exact h.elim
 |some v=>rw[e]at h;exact⟨v,sR e,h⟩
def LB(K:Py):R2:=λx y H Q=>match x,y with
 |.int i,.int j=>Q (.int (i+j)) H
 |.str i,.str j=>i.length+j.length<=PP/\Q (.str (i++j)) H
 |.ref _,.ref _=>Lv x y H Q\/IP K x y H Q
 |_,_=>False
theorem GX(K:Py)(hK:X.K=K):OpR X (QW .Add) (LB K):=by
 subst hK;refine(Jl.or (AV.or (JC.or GP))).imp λx y H Q h=>?_;cases x <;> cases y <;> first
  |exact .inl ⟨_,_,rfl,rfl,h⟩
  |exact .inr (.inl ⟨_,_,rfl,rfl,h.1,h.2⟩)
  |exact .inr (.inr h)
  |exact h.elim
def vX(C:Int->Int->Prop)(f:Int->Int->Int):R2:=λx y H Q=>match x,y with
 |.int i,.int j=>C i j/\Q (.int (f i j)) H
 |_,_=>False
def En(f:Int->Int->Int):R2:=λx y H Q=>match x,y with
 |.int i,.int j=>Q (.int (f i j)) H
 |_,_=>False
theorem rZ{C:Int->Int->Prop}(h:OpR X f (rI C λi j=>.int (g i j))):OpR X f (vX C g):=
 h.imp λx y H Q q=>by cases x <;> cases y <;> first|exact⟨_,_,rfl,rfl,q.1,q.2⟩|exact q.elim
theorem Eo(h:OpR X f (rI0 λi j=>.int (g i j))):OpR X f (En g):=
 h.imp λx y H Q q=>by cases x <;> cases y <;> first|exact⟨_,_,rfl,rfl,q⟩|exact q.elim
theorem GY:OpR X (QW .Sub) (En λi j=>i-j):=Eo Jm
theorem GZ:OpR X (QW .Mult) (vX A2 λi j=>i*j):=rZ Jn
theorem Ha:OpR X (QW .FloorDiv) (vX E4 λi j=>i/j):=rZ GD
theorem Hb:OpR X (QW .Mod) (vX (λ_ j=>0<j) λi j=>i%j):=rZ Jo
theorem Hc:OpR X (QW .Pow) (vX CF λi j=>i ^ j.toNat):=rZ Jp
def A9(f:Int->Int->Bool)(g:List Nat->List Nat->Bool):R2:=λx y H Q=>match x,y with
 |.int i,.int j=>Q (.bl (f i j)) H
 |.str i,.str j=>Q (.bl (g i.cps.toList j.cps.toList)) H
 |_,_=>False
theorem yA{p:Int->Int->Bool}{g:List Nat->List Nat->Bool}(h1:OpR X f (rI0 λi j=>.bl (p i j)))(h2:OpR X f (λx y H Q=>∃i j,x=.str i/\y=.str j/\Q (.bl (g i.cps.toList j.cps.toList)) H)):OpR X f (A9 p g):=
 (h1.or h2).imp λx y H Q q=>by cases x <;> cases y <;> first|exact .inl ⟨_,_,rfl,rfl,q⟩|exact .inr ⟨_,_,rfl,rfl,q⟩|exact q.elim
theorem JK:OpR X (Qn .Lt) (A9 (λi j=>decide (i<j)) λi j=>decide (i<j)):=yA Lk CG
theorem JL:OpR X (Qn .Gt) (A9 (λi j=>decide (j<i)) λi j=>decide (j<i)):=yA Lm λpins s σ H x y v u Q I rx ry h=>by
 obtain⟨i,j,rfl,rfl,q⟩:=h;obtain⟨t,rfl⟩:=rx;obtain⟨t',rfl⟩:=ry;exact PySem.P.gt_str (xR I q rfl)
theorem JM:OpR X (Qn .LtE) (A9 (λi j=>decide (i<=j)) λi j=>!decide (j<i)):=yA Ll λpins s σ H x y v u Q I rx ry h=>by
 obtain⟨i,j,rfl,rfl,q⟩:=h;obtain⟨t,rfl⟩:=rx;obtain⟨t',rfl⟩:=ry;exact PySem.P.le_str (xR I q rfl)
end
variable{ta:TE}{vs:List V}
section
variable{a b:Expr}{t t' tb:TE}
theorem LC{x:V}{Q:Bool->Prop}(h:match x with|.bl c=>Q c|_=>False):∃c,x=.bl c/\Q c:=by
 cases x <;> first|exact⟨_,rfl,h⟩|exact h.elim
def NV(ta tb:TE):TE:=λσ H Q=>ta σ H λx H1=>match x with
 |.bl c=>if c=true then tb σ H1 Q else Q (.bl false) H1
 |_=>False
theorem Hd{rest:List Expr}(ha:PE X a ta)(hb:PE X (.BoolOp .And (b::rest) pos) tb):PE X (.BoolOp .And (a::b::rest) pos) (NV ta tb):=by
 intro pins s σ H Q I h;refine BoolOp_and (thn (ha pins s σ H _ I h) λv s1 hz=>?_);obtain⟨x,H1,I1,r1,q1⟩:=hz;obtain⟨c,rfl,q1⟩:=LC q1;cases r1
 refine wpAny_truthy_bool ?_;cases c with
 |true=>exact hb pins s1 σ H1 Q I1 q1
 |false=>exact⟨.bl false,H1,I1,rfl,q1⟩
theorem He(hu:X.A.units+1<cLine):IxR X (λx y H Q=>∃p v,x=.ref p/\mF H p y (some v)/\Q v H):=by
 intro value slice pins s σ H x y v u Q I rx ry h hs;obtain⟨p,w,rfl,g,q⟩:=h;cases rx
 have hT:=A8 I g;unfold subscriptTail;refine Pi ?_;rw[getitemInPython_of_ne hT.not_modules];refine Pi (R6 hT PySem.F.slot_dict_getitem.lookup ?_);have fin:wpAny (model X.prog X.w) X.A (subscripted slice false (.ref p) u) (λr s₃=>wpAny (model X.prog X.w) X.A (letTemporaryGo value (.ref p) r >>= λ_=>pure r) (EP X pins σ Q) X.xe s₃) X.xe s:=by
  rw[hs];exact wpAny_operating (CV hu I g ry λw' s3 I3 cq=>Pi (wpAny_letTemporaryGo (Px ⟨w,H,I3,cq,q⟩)))
 first
  |exact Px (Pi fin)
  |exact Pi (Px (Pi fin))
  |exact Pi fin
def LD(K:Py):R2:=λx y H Q=>match x with
 |.str z=>(match y with
  |.int i=>z.length<=PP/\∃c,atI z.cps.toList i=some c/\Q (.str ⟨#[c]⟩) H
  |_=>False)
 |.ref p=>(∃xs i v,y=.int i/\(SqL K H p xs\/SqT K H p xs)/\atI xs i=some v/\Q v H)\/∃v,mF H p y (some v)/\Q v H
 |_=>False
theorem IxR.imp{r r':R2}(h:IxR X r)(i:∀x y H Q,r' x y H Q->r x y H Q):IxR X r':=λa b pins s σ H x y v u Q I rx ry q hs=>h a b pins s σ H x y v u Q I rx ry (i x y H Q q) hs
theorem ixC(hu:X.A.units+1<cLine)(K:Py)(hK:X.K=K):IxR X (LD K):=by
 subst hK;refine(GQ.or (Jy.or (Jz.or (He hu)))).imp λx y H Q h=>?_;cases x with
 |str z=>
  cases y with
  |int i=>obtain⟨h1,c,h2,h3⟩:=h;exact .inr (.inr (.inl ⟨z,i,c,rfl,rfl,h1,h2,h3⟩))
  |_=>exact h.elim
 |ref p=>
  rcases h with⟨xs,i,v,rfl,hs|hs,ha,hq⟩|⟨v,g,hq⟩
  ·exact .inl ⟨p,xs,i,v,rfl,rfl,hs,ha,hq⟩
  ·exact .inr (.inl ⟨p,xs,i,v,rfl,rfl,hs,ha,hq⟩)
  ·exact .inr (.inr (.inr ⟨p,v,rfl,g,hq⟩))
 |_=>exact h.elim
theorem JN(hu:X.A.units+1<cLine)(K:Py)(hK:X.K=K):OpR X (Qn .In) (λx y H Q=>rIn K false x y H Q\/∃a o,y=.ref a/\mF H a x o/\Q (.bl o.isSome) H):=by
 subst hK;refine CP.or λpins s σ H x y v u Q I rx ry h=>?_;obtain⟨a,o,rfl,g,q⟩:=h;cases ry
 exact NU hu I g rx λs' I'=>⟨.bl o.isSome,H,I',rfl,q⟩
theorem D0(hu:X.A.units+1<cLine)(K:Py)(hK:X.K=K):OpR X (Qn .NotIn) (λx y H Q=>rIn K true x y H Q\/∃a o,y=.ref a/\mF H a x o/\Q (.bl (!o.isSome)) H):=by
 subst hK;refine xW.or λpins s σ H x y v u Q I rx ry h=>?_;obtain⟨a,o,rfl,g,q⟩:=h;cases ry
 exact GS hu I g rx λs' I'=>⟨.bl (!o.isSome),H,I',rfl,q⟩
def LF(K:Py):List V->Hp->VK->Prop:=λxs H Q=>match xs with
 |[.str y]=>y.length<=PP/\Q (.int y.length) H
 |[.ref p]=>(∃xs,(SqL K H p xs\/SqT K H p xs)/\Q (.int xs.length) H)\/∃kvs,H p=some (.dK kvs)/\Q (.int kvs.length) H
 |_=>False
theorem D3(K:Py)(hK:X.K=K):bS X (.builtin "len") (LF K):=by
 subst hK;intro pins s σ H xs us Q I r h
 match xs,h with
 |[.str y],h=>exact E8 pins s σ H _ us Q I r ⟨_,_,rfl,⟨h.1,rfl⟩,h.2⟩
 |[.ref p],h=>
  rcases h with⟨ys,hs,q⟩|⟨kvs,hs,q⟩
  ·exact xX pins s σ H _ us Q I r ⟨p,ys,rfl,hs,q⟩
  ·exact CY pins s σ H _ us Q I r ⟨p,kvs,rfl,hs,q⟩
def LG:List V->Hp->VK->Prop:=λxs H Q=>match xs with
 |[.int i,.int j]=>Q (.int (if j>i then j else i)) H
 |_=>False
theorem D4(hc:X.calm=true):bS X (.builtin "max") LG:=(CH hc).imp λxs H Q h=>by
 match xs,h with
 |[.int i,.int j],h=>exact⟨i,j,rfl,h⟩
theorem B7(K:Py)(hK:X.K=K):bS X (.type "list") (λxs H Q=>∃p ys,xs=[.ref p]/\(SqL K H p ys\/SqT K H p ys)/\∀l,H l=none->Q (.ref l) (upd H l (.lst ys))):=by subst hK;exact xY
theorem Aa(K:Py)(hK:X.K=K):bS X (.type "tuple") (λxs H Q=>∃p ys,xs=[.ref p]/\((SqL K H p ys/\∀l,H l=none->Q (.ref l) (upd H l (.tup ys)))\/(SqT K H p ys/\Q (.ref p) H))):=by subst hK;exact vD
def LH(ta:TA):TI:=λσ H R=>ta σ H λvs H1=>match vs with
 |[.int j]=>(-(2 ^ 62)<=j/\j<2 ^ 62)/\R (Itr 0 j.toNat) H1
 |_=>False
theorem Hf{Q:Int->Prop}(h:match vs with|[.int i]=>Q i|_=>False):∃i,vs=[.int i]/\Q i:=by
 split at h
 · exact⟨_,rfl,h⟩
 · exact h.elim
theorem pr1{x:Expr}{ta:TA}{p:Pos}(hg:Gl X "range")(hm:X.mg "range" = none)(ha:PA X [x] ta)(hs:P3 [x] X.env=[(false,eval x X.env)]:=by rfl):PI X tg (.Call (.Name "range" p) [x] [] pos) (LH ta):=by
 intro pins s σ H R I h;refine Call_ (jW I hg hm boot_range (RP (thn (ha pos pins s σ H _ I h) λus s1 hz=>?_) hs rfl));obtain⟨vs,H1,I1,r1,q1⟩:=hz;obtain⟨j,rfl,⟨h1,h2⟩,q⟩:=Hf q1;obtain⟨u,rfl,t,rfl⟩:=vals1 r1;exact call_range_1 (E3 I1 (by omega) (by omega) h1 h2 (by simpa using q))
def LJ(t:TE):TO:=λσ H Q=>t σ H λx H1=>match x with
 |.int i=>Q (some i) H1
 |_=>False
theorem Ep{x:Expr}(h:PE X x te):PO X (some x) (LJ te):=by
 intro pins s σ H Q I hw;rw[evalPart_some];refine thn (h pins s σ H _ I hw) λu s1 hz=>?_;obtain⟨x,H1,I1,r1,q1⟩:=hz;cases x with
 |int i=>
  obtain⟨t,rfl⟩:=r1;exact⟨some i,H1,I1,.int i t,q1⟩
 |_=>exact q1.elim
end
structure Def(K:Py)(mg:Str->Option Value)(x:Str)(st:Stmt)(f:Addr)(fd:Rl)(ps:List Str):Prop where
 fn:Fun K x x st f fd
 mg:mg x=some (.ref f)
 bd:Binds K fd ps []
theorem LK{f:Addr}{k:Nat}{t:TA}{p:Pos}(D:Def X.K X.mg x st f fd ps)(G:cE X.prog X.w X.K X.mg X.base CX0 k f fd ps sp)(hr:dX k X.A)(ha:PA X (e::es) t)(hg:Gl X x:=by rfl)(b0:(x == ("__debug__" : Str))=false:=by decide)(he:P3 (e::es) X.env=(false,eval e X.env)::P3 es X.env:=by rfl)(bg:(backTo pos (P3 es X.env)).any (·.1)=false:=by rfl):
  PE X (.Call (.Name x p) (e::es) [] pos) (Eb sp [] E0 t):=GL G hr hg D.mg D.fn.kp D.bd .nil A6 ha b0 he bg
theorem JO{α:Type}{xs:List α}{i:Int}(h0:0<=i)(h1:i<xs.length):∃v,atI xs i=some v/\xs[i.toNat]?=some v:=by
 have h2:i.toNat<xs.length:=by omega
 refine⟨xs[i.toNat],?_,by simp[h2]⟩;unfold atI ixN;rw[if_pos h0,if_pos h1];simp[h2]
theorem aR{α:Type}{xs:List α}{v:α}(h:xs[i]?=some v):atI xs (i:Int)=some v:=by
 have h1:=(Pv.mp h).1;unfold atI ixN;rw[if_pos (by omega),if_pos (by omega)];simpa using h
variable{o:HO}
theorem A7.upd(h:H a=none):A7 H (upd H a o):=λb u e=>by
 rw[aH (cI e h)];exact e
theorem Def.mk'{h:Heap}{f:Addr}{oc:Value}{od:Option Addr}{kV:Value}(X:K.In h)(G:h.Ns QR mg)(a:Tg K QR x=some (some (.ref f)))(l:K.lookup f=some ⟨oc,od,.func (Rk x x (dY st) (bW st) (aP st) .none kV doc pm an cdv ct),osl⟩)(c:Tf K cdv x=true)(k:Rr K (.ref f)=true)(b:∀(kV doc pm:Value)(an:Option Addr)(cdv ct:Value)(us:List Value),us.length=ps.length->bindArgs (Rk x x (dY st) (bW st) (aP st) .none kV doc pm an cdv ct) ⟨us,[]⟩=pure (ps.zip us)):
  Def K mg x st f (Rk x x (dY st) (bW st) (aP st) .none kV doc pm an cdv ct) ps:=
 ⟨B4 l c k,RJ X G a,(B4 (st:=st) l c k).binds b⟩
open PySem PySem.Spec PyProof.Rows PySem.SeqAt
inductive D where
 |non|bl (b:Bool)|int (i:Int)|str (x:Str)|tup (xs:List D)
mutual
def D.depth:D->Nat
 |.tup xs=>D.depths xs+1
 |_=>0
def D.depths:List D->Nat
 |[]=>0
 |x::xs=>max (D.depth x) (D.depths xs)
end
theorem D.depths_le:∀{xs:List D}{i:Nat}{d:D},xs[i]?=some d->d.depth<=D.depths xs
 |[],_,_,h=>by simp at h
 |x::xs,0,d,h=>by
  have:x=d:=by simpa using h
  subst this
  show x.depth<=max x.depth (D.depths xs)
  omega
 |x::xs,i+1,d,h=>by
  have:=D.depths_le (xs:=xs) (i:=i) (d:=d) (by simpa using h)
  show d.depth<=max x.depth (D.depths xs)
  omega
mutual
/-- the value x is the datum,in the heap H -/
def Rep(K:Py)(H:Hp):D->V->Prop
 |.non,v=>v=.non
 |.bl b,v=>v=.bl b
 |.int i,v=>v=.int i
 |.str x,v=>v=.str x
 |.tup ds,v=>∃a vs,v=.ref a/\SqT K H a vs/\cF K H ds vs
def cF(K:Py)(H:Hp):List D->List V->Prop
 |[],[]=>True
 |d::ds,v::vs=>Rep K H d v/\cF K H ds vs
 |[],_::_=>False
 |_::_,[]=>False
end
mutual
/-- == -/
def eqD:D->D->Bool
 |.non,.non=>true
 |.bl a,.bl b=>a == b
 |.bl a,.int b=>(if a then 1 else 0) == b
 |.int a,.bl b=>a == (if b then 1 else 0)
 |.int a,.int b=>a == b
 |.str a,.str b=>a == b
 |.tup xs,.tup ys=>fO xs ys
 |_,_=>false
def fO:List D->List D->Bool
 |[],[]=>true
 |x::xs,y::ys=>eqD x y&&fO xs ys
 |[],_::_=>false
 |_::_,[]=>false
end
mutual
/-- < (none: an error) -/
def ltD:D->D->Option Bool
 |.int a,.int b=>some (decide (a<b))
 |.str a,.str b=>some (decide (a.cps.toList<b.cps.toList))
 |.tup xs,.tup ys=>yB xs ys
 |_,_=>none
def yB:List D->List D->Option Bool
 |[],[]=>some false
 |[],_::_=>some true
 |_::_,[]=>some false
 |x::xs,y::ys=>if eqD x y=true then yB xs ys else ltD x y
end
mutual
theorem sU:∀d:D,eqD d d=true
 |.non=>rfl
 |.bl b=>by simp[eqD]
 |.int i=>by simp[eqD]
 |.str x=>by simp[eqD]
 |.tup xs=>by simp only[eqD];exact vY xs
theorem vY:∀ds:List D,fO ds ds=true
 |[]=>rfl
 |d::ds=>by simp only[fO,sU d,vY ds,Bool.and_self]
end
def iR(H H':Hp):Prop:=∀a xs,Rd H a (.tup xs)->Rd H' a (.tup xs)
theorem iR.refl(H:Hp):iR H H:=λ_ _ h=>h
variable{H1 H2:Hp}
theorem iR.trans(a:iR H H1)(b:iR H1 H2):iR H H2:=λc xs h=>b c xs (a c xs h)
theorem iR.same(s:A7 H H'):iR H H':=λa xs h=>by
 rcases h with h|⟨o,h⟩
 ·exact .inl (s _ _ h)
 ·exact .inr ⟨o,s _ _ h⟩
def rE:Option HO->Prop
 |some (.tup _)=>False
 |some (.frz _ _)=>False
 |_=>True
theorem iR.upd{p:Addr}(h:rE (H p)):iR H (upd H p o):=λa xs q=>by
 have ne:a≠p:=by
  rintro rfl;rcases q with q|⟨ob,q⟩
  ·rw[q]at h;exact h
  ·rw[q]at h;exact h
 rcases q with q|⟨ob,q⟩
 ·exact .inl (by rw[aH ne];exact q)
 ·exact .inr ⟨ob,by rw[aH ne];exact q⟩
theorem iR.sq{xs:List V}(t:iR H H')(h:SqT K H a xs):SqT K H' a xs:=by
 rcases h with h|h
 ·exact .inl (t a xs h)
 ·exact .inr h
mutual
theorem Rep.tp(t:iR H H'):∀{d:D}{v:V},Rep K H d v->Rep K H' d v
 |.non,_,h=>h
 |.bl _,_,h=>h
 |.int _,_,h=>h
 |.str _,_,h=>h
 |.tup ds,_,⟨a,vs,e,q,r⟩=>⟨a,vs,e,t.sq q,cF.tp t r⟩
theorem cF.tp(t:iR H H'):∀{ds:List D}{vs:List V},cF K H ds vs->cF K H' ds vs
 |[],[],_=>trivial
 |_::_,_::_,⟨h,r⟩=>⟨Rep.tp t h,cF.tp t r⟩
 |[],_::_,h=>h.elim
 |_::_,[],h=>h.elim
end
theorem cF.length:∀{ds:List D}{vs:List V},cF K H ds vs->ds.length=vs.length
 |[],[],_=>rfl
 |_::_,_::_,⟨_,r⟩=>by simp[cF.length r]
 |[],_::_,h=>h.elim
 |_::_,[],h=>h.elim
theorem cF.get:∀{ds:List D}{vs:List V}{i:Nat}{v:V},cF K H ds vs->vs[i]?=some v->∃d,ds[i]?=some d/\Rep K H d v
 |[],[],_,_,_,e=>by simp at e
 |d::_,w::_,0,v,⟨h,_⟩,e=>by
  have:w=v:=by simpa using e
  subst this;exact⟨d,rfl,h⟩
 |_::ds,_::vs,i+1,v,⟨_,r⟩,e=>by
  obtain⟨d,h1,h2⟩:=cF.get (ds:=ds) (vs:=vs) (i:=i) (v:=v) r (by simpa using e)
  exact⟨d,by simpa using h1,h2⟩
 |[],_::_,_,_,h,_=>h.elim
 |_::_,[],_,_,h,_=>h.elim
theorem cF.at:∀{ds:List D}{vs:List V}{i:Nat}{d:D},cF K H ds vs->ds[i]?=some d->∃v,vs[i]?=some v/\Rep K H d v
 |[],[],_,_,_,e=>by simp at e
 |d::_,w::_,0,d',⟨h,_⟩,e=>by
  have:d=d':=by simpa using e
  subst this;exact⟨w,rfl,h⟩
 |_::ds,_::vs,i+1,d,⟨_,r⟩,e=>by
  obtain⟨v,h1,h2⟩:=cF.at (ds:=ds) (vs:=vs) (i:=i) (d:=d) r (by simpa using e)
  exact⟨v,by simpa using h1,h2⟩
 |[],_::_,_,_,h,_=>h.elim
 |_::_,[],_,_,h,_=>h.elim
variable{b:Bool}{fb:List V}{its its':List Value}
section
theorem iS{v:Value}(h:RcAt A s v u b)(hs:v=u->b=true)(hf:∀f t,v≠.float f t):EqAt A s v u b:=λprog w E Q hq=>by
 unfold eqBool;refine QZ ?_;refine wpAny_ite_split (λON=>?_) (λ_=>?_)
 ·have e:=hs (eq_of_beq ON);subst e;exact Pi (S6 (Px hq))
 ·cases v <;> first|exact absurd rfl (hf _ _)|exact Pi (h prog w E _ (wpAny_truthy_bool hq))|(cases u <;> exact Pi (h prog w E _ (wpAny_truthy_bool hq)))
theorem vZ{d:D}{x:V}{v:Value}(h:Rep K H d x)(r:RelV x v):∀f t,v≠.float f t:=λf t e=>by
 subst e;cases d with
 |non=>cases h;cases r
 |bl b=>cases h;cases r
 |int b=>cases h;obtain⟨_,z⟩:=r;cases z
 |str b=>cases h;obtain⟨_,z⟩:=r;cases z
 |tup ds=>obtain⟨_,_,rfl,_⟩:=h;cases r
theorem sA(I:Inv X pins σ H s):∀(n:Nat)(d e:D)(v:V),d.depth<=n->Rep X.K H d v->Rep X.K H e v->d=e
 |n,.non,e,v,_,h,h'=>by
  cases h
  cases e <;> first|(obtain⟨_,_,z,_⟩:=h';exact absurd z (by intro q;cases q))|rfl|exact absurd h' (by intro z;cases z)
 |n,.bl b,e,v,_,h,h'=>by
  cases h
  cases e <;> first|(obtain⟨_,_,z,_⟩:=h';exact absurd z (by intro q;cases q))|(cases h';rfl)|exact absurd h' (by intro z;cases z)
 |n,.int i,e,v,_,h,h'=>by
  cases h
  cases e <;> first|(obtain⟨_,_,z,_⟩:=h';exact absurd z (by intro q;cases q))|(cases h';rfl)|exact absurd h' (by intro z;cases z)
 |n,.str x,e,v,_,h,h'=>by
  cases h
  cases e <;> first|(obtain⟨_,_,z,_⟩:=h';exact absurd z (by intro q;cases q))|(cases h';rfl)|exact absurd h' (by intro z;cases z)
 |0,.tup ds,e,v,hd,h,h'=>absurd hd (by show ¬ D.depths ds+1<=0;omega)
 |n+1,.tup ds,e,v,hd,h,h'=>by
  obtain⟨a,vs,rfl,q,r⟩:=h;cases e with
  |tup es=>
   obtain⟨a',fb,ea,q',r'⟩:=h';cases ea
   have:=I.tuple_inj q q';subst this;have cg:D.depths ds+1<=n+1:=hd;have:ds=es:=by
    apply Ro;intro i;cases hi:ds[i]? with
    |none=>
     have h1:=r.length;have h2:=r'.length;have:ds.length<=i:=List.getElem?_eq_none_iff.mp hi;exact(List.getElem?_eq_none_iff.mpr (by omega)).symm
    |some d=>
     obtain⟨v,hv,hr⟩:=r.at hi;obtain⟨e,he,sk⟩:=r'.get hv;rw[he,sA I n d e v (by have:=D.depths_le hi;omega) hr sk]
   rw[this]
  |_=>cases h'
theorem nY{xs ys:List D}:((Qi (min xs.length ys.length)).all (λj=>match xs[j]?,ys[j]? with|some x,some y=>eqD x y|_,_=>false)&&xs.length == ys.length)=fO xs ys:=by
 induction xs generalizing ys with
 |nil=>
  cases ys with
  |nil=>rfl
  |cons y ys=>simp[fO]
 |cons x xs ih=>
  cases ys with
  |nil=>simp[fO]
  |cons y ys=>
   have:=ih (ys:=ys);have e:min (x::xs).length (y::ys).length=min xs.length ys.length+1:=by simp only[QY];omega
   rw[e,List.range_succ_eq_map,Sj,List.all_map];simp only[List.getElem?_cons_zero,Function.comp_def,Rh,QY,fO];rw[<-this];have e2:(xs.length+1 == ys.length+1)=(xs.length == ys.length):=by simp
   rw[e2,Bool.and_assoc]
theorem LL(I:Inv X pins σ H s):∀(n:Nat)(d e:D)(A:Around)(x y:V)(v u:Value),d.depth<=n->A.units+n<cLine->Rep X.K H d x->Rep X.K H e y->RelV x v->RelV y u->RcAt A s v u (eqD d e):=by
 intro n
 induction n with
 |zero=>
  intro d e A x y v u hd hu hx hy rx ry;cases d with
  |tup ds=>exact absurd hd (by show ¬ D.depths ds+1<=0;omega)
  |non=>
   cases hx;cases rx;cases e with
   |non=>cases hy;cases ry;exact RcAt.none_none
   |bl b=>cases hy;cases ry;exact RcAt.none_bool b
   |int b=>cases hy;obtain⟨t,rfl⟩:=ry;exact RcAt.none_int b t
   |str b=>cases hy;obtain⟨t,rfl⟩:=ry;exact RcAt.none_str b t
   |tup es=>obtain⟨a,vs,rfl,q,r⟩:=hy;cases ry;obtain⟨its,_,p,_⟩:=I.tuple q;exact RcAt.none_tuple p (by omega)
  |bl a=>
   cases hx;cases rx;cases e with
   |non=>cases hy;cases ry;exact RcAt.bool_none a
   |bl b=>cases hy;cases ry;exact RcAt.bool_bool a b
   |int b=>cases hy;obtain⟨t,rfl⟩:=ry;exact RcAt.bool_int a b t
   |str b=>cases hy;obtain⟨t,rfl⟩:=ry;exact RcAt.bool_str a b t
   |tup es=>obtain⟨a',vs,rfl,q,r⟩:=hy;cases ry;obtain⟨its,_,p,_⟩:=I.tuple q;exact RcAt.bool_tuple a p (by omega)
  |int a=>
   cases hx;obtain⟨t',rfl⟩:=rx;cases e with
   |non=>cases hy;cases ry;exact RcAt.int_none a t'
   |bl b=>cases hy;cases ry;exact RcAt.int_bool a t' b
   |int b=>cases hy;obtain⟨t,rfl⟩:=ry;exact RcAt.int_int a t' b t
   |str b=>cases hy;obtain⟨t,rfl⟩:=ry;exact RcAt.int_str a t' b t
   |tup es=>obtain⟨a',vs,rfl,q,r⟩:=hy;cases ry;obtain⟨its,_,p,_⟩:=I.tuple q;exact RcAt.int_tuple a t' p (by omega)
  |str a=>
   cases hx;obtain⟨t',rfl⟩:=rx;cases e with
   |non=>cases hy;cases ry;exact RcAt.str_none a t'
   |bl b=>cases hy;cases ry;exact RcAt.str_bool a t' b
   |int b=>cases hy;obtain⟨t,rfl⟩:=ry;exact RcAt.str_int a t' b t
   |str b=>cases hy;obtain⟨t,rfl⟩:=ry;exact RcAt.str_str a t' b t
   |tup es=>obtain⟨a',vs,rfl,q,r⟩:=hy;cases ry;obtain⟨its,_,p,_⟩:=I.tuple q;exact RcAt.str_tuple a t' p (by omega)
 |succ n ih=>
  intro d e A x y v u hd hu hx hy rx ry
  by_cases h0:d.depth<=n
  ·exact ih d e A x y v u h0 (by omega) hx hy rx ry
  ·cases d with
   |non=>exact absurd (show D.depth .non<=n from Qd n) h0
   |bl b=>exact absurd (show D.depth (.bl b)<=n from Qd n) h0
   |int b=>exact absurd (show D.depth (.int b)<=n from Qd n) h0
   |str b=>exact absurd (show D.depth (.str b)<=n from Qd n) h0
   |tup ds=>
    have j4:D.depths ds<=n:=by have:D.depths ds+1<=n+1:=hd;omega
    obtain⟨a,vs,rfl,q,r⟩:=hx;cases rx
    obtain⟨its,rv,p,_⟩:=I.tuple q;cases e with
    |non=>cases hy;cases ry;exact RcAt.tuple_none p (by omega)
    |bl b=>cases hy;cases ry;exact RcAt.tuple_bool b p (by omega)
    |int b=>cases hy;obtain⟨t,rfl⟩:=ry;exact RcAt.tuple_int b t p (by omega)
    |str b=>cases hy;obtain⟨t,rfl⟩:=ry;exact RcAt.tuple_str b t p (by omega)
    |tup es=>
     obtain⟨a',fb,rfl,q',r'⟩:=hy;cases ry
     obtain⟨its',ax,p',_⟩:=I.tuple q';have l1:=r.length;have l2:=r'.length;have l3:=rv.length;have l4:=ax.length;have key:=RcAt.tuples (A:=A) (e:=λj=>match ds[j]?,es[j]? with|some x,some y=>eqD x y|_,_=>false) p p' (by omega) (λj h1 h2=>by
      have iq:j<ds.length:=by simp at h1;omega
      have dg:j<es.length:=by simp at h2;omega
      have g1:ds[j]?=some ds[j]:=by simp[iq]
      have g2:es[j]?=some es[j]:=by simp[dg]
      obtain⟨xv,ki,ir⟩:=r.at g1;obtain⟨yv,k9,ja⟩:=r'.at g2;obtain⟨xu,jd,cy⟩:=rv.get ki;obtain⟨yu,iu,bz⟩:=ax.get k9;have e1:its.toArray[j]=xu:=by
       have:its[j]?=some xu:=jd;simpa using(Pv.mp this).2
      have e2:its'.toArray[j]=yu:=by
       have:its'[j]?=some yu:=iu;simpa using(Pv.mp this).2
      rw[e1,e2];simp only[g1,g2];have uk:=D.depths_le g1;refine iS (ih ds[j] es[j] A.in1 xv yv xu yu (by omega) (by show A.units+1+n<cLine;omega) ir ja cy bz) (λev=>by
      subst ev;have sm:xv=yv:=RelV.inj cy bz;subst sm;rw[sA I n ds[j] es[j] xv (by omega) ir ja];exact sU _) (vZ ir cy))
     have sz:((Qi (min its.toArray.size its'.toArray.size)).all (λj=>match ds[j]?,es[j]? with|some x,some y=>eqD x y|_,_=>false)&&its.toArray.size == its'.toArray.size)=eqD (.tup ds) (.tup es):=by
      have a1:its.toArray.size=ds.length:=by simp;omega
      have a2:its'.toArray.size=es.length:=by simp;omega
      rw[a1,a2];simp only[eqD];exact nY
     rw[<-sz];exact key
theorem Hg(I:Inv X pins σ H s){d e:D}{x:V}{v:Value}(hd:d.depth<=n)(hu:A.units+n<cLine)(hx:Rep X.K H d x)(hy:Rep X.K H e y)(rx:RelV x v)(ry:RelV y u):EqAt A s v u (eqD d e):=
 iS (LL I n d e A x y v u hd hu hx hy rx ry) (λev=>by
  subst ev;have sm:x=y:=RelV.inj rx ry;subst sm;rw[sA I n d e x hd hx hy];exact sU _) (vZ hx rx)
theorem JP(I:Inv X pins σ H s):∀(n:Nat)(d e:D)(A:Around)(x y:V)(v u:Value),d.depth<=n->A.units+n<cLine->Rep X.K H d x->Rep X.K H e y->RelV x v->RelV y u->RcNeAt A s v u (!eqD d e):=by
 intro n
 induction n with
 |zero=>
  intro d e A x y v u hd hu hx hy rx ry;cases d with
  |tup ds=>exact absurd hd (by show ¬ D.depths ds+1<=0;omega)
  |non=>
   cases hx;cases rx;cases e with
   |non=>cases hy;cases ry;exact RcNeAt.none_none
   |bl b=>cases hy;cases ry;exact RcNeAt.none_bool b
   |int b=>cases hy;obtain⟨t,rfl⟩:=ry;exact RcNeAt.none_int b t
   |str b=>cases hy;obtain⟨t,rfl⟩:=ry;exact RcNeAt.none_str b t
   |tup es=>obtain⟨a,vs,rfl,q,r⟩:=hy;cases ry;obtain⟨its,_,p,_⟩:=I.tuple q;exact RcNeAt.none_tuple p (by omega)
  |bl a=>
   cases hx;cases rx;cases e with
   |non=>cases hy;cases ry;exact RcNeAt.bool_none a
   |bl b=>cases hy;cases ry;exact RcNeAt.bool_bool a b
   |int b=>cases hy;obtain⟨t,rfl⟩:=ry;exact RcNeAt.bool_int a b t
   |str b=>cases hy;obtain⟨t,rfl⟩:=ry;exact RcNeAt.bool_str a b t
   |tup es=>obtain⟨a',vs,rfl,q,r⟩:=hy;cases ry;obtain⟨its,_,p,_⟩:=I.tuple q;exact RcNeAt.bool_tuple a p (by omega)
  |int a=>
   cases hx;obtain⟨t',rfl⟩:=rx;cases e with
   |non=>cases hy;cases ry;exact RcNeAt.int_none a t'
   |bl b=>cases hy;cases ry;exact RcNeAt.int_bool a t' b
   |int b=>cases hy;obtain⟨t,rfl⟩:=ry;exact RcNeAt.int_int a t' b t
   |str b=>cases hy;obtain⟨t,rfl⟩:=ry;exact RcNeAt.int_str a t' b t
   |tup es=>obtain⟨a',vs,rfl,q,r⟩:=hy;cases ry;obtain⟨its,_,p,_⟩:=I.tuple q;exact RcNeAt.int_tuple a t' p (by omega)
  |str a=>
   cases hx;obtain⟨t',rfl⟩:=rx;cases e with
   |non=>cases hy;cases ry;exact RcNeAt.str_none a t'
   |bl b=>cases hy;cases ry;exact RcNeAt.str_bool a t' b
   |int b=>cases hy;obtain⟨t,rfl⟩:=ry;exact RcNeAt.str_int a t' b t
   |str b=>cases hy;obtain⟨t,rfl⟩:=ry;exact RcNeAt.str_str a t' b t
   |tup es=>obtain⟨a',vs,rfl,q,r⟩:=hy;cases ry;obtain⟨its,_,p,_⟩:=I.tuple q;exact RcNeAt.str_tuple a t' p (by omega)
 |succ n ih=>
  intro d e A x y v u hd hu hx hy rx ry
  by_cases h0:d.depth<=n
  ·exact ih d e A x y v u h0 (by omega) hx hy rx ry
  ·cases d with
   |non=>exact absurd (show D.depth .non<=n from Qd n) h0
   |bl b=>exact absurd (show D.depth (.bl b)<=n from Qd n) h0
   |int b=>exact absurd (show D.depth (.int b)<=n from Qd n) h0
   |str b=>exact absurd (show D.depth (.str b)<=n from Qd n) h0
   |tup ds=>
    have j4:D.depths ds<=n:=by have:D.depths ds+1<=n+1:=hd;omega
    obtain⟨a,vs,rfl,q,r⟩:=hx;cases rx
    obtain⟨its,rv,p,_⟩:=I.tuple q;cases e with
    |non=>cases hy;cases ry;exact RcNeAt.tuple_none p (by omega)
    |bl b=>cases hy;cases ry;exact RcNeAt.tuple_bool b p (by omega)
    |int b=>cases hy;obtain⟨t,rfl⟩:=ry;exact RcNeAt.tuple_int b t p (by omega)
    |str b=>cases hy;obtain⟨t,rfl⟩:=ry;exact RcNeAt.tuple_str b t p (by omega)
    |tup es=>
     obtain⟨a',fb,rfl,q',r'⟩:=hy;cases ry
     obtain⟨its',ax,p',_⟩:=I.tuple q';have l1:=r.length;have l2:=r'.length;have l3:=rv.length;have l4:=ax.length;have key:=RcNeAt.tuples (A:=A) (e:=λj=>match ds[j]?,es[j]? with|some x,some y=>eqD x y|_,_=>false) p p' (by omega) (λj h1 h2=>by
      have iq:j<ds.length:=by simp at h1;omega
      have dg:j<es.length:=by simp at h2;omega
      have g1:ds[j]?=some ds[j]:=by simp[iq]
      have g2:es[j]?=some es[j]:=by simp[dg]
      obtain⟨xv,ki,ir⟩:=r.at g1;obtain⟨yv,k9,ja⟩:=r'.at g2;obtain⟨xu,jd,cy⟩:=rv.get ki;obtain⟨yu,iu,bz⟩:=ax.get k9;have e1:its.toArray[j]=xu:=by
       have:its[j]?=some xu:=jd;simpa using(Pv.mp this).2
      have e2:its'.toArray[j]=yu:=by
       have:its'[j]?=some yu:=iu;simpa using(Pv.mp this).2
      rw[e1,e2];simp only[g1,g2];have uk:=D.depths_le g1;exact Hg I (n:=n) (by omega) (by show A.units+1+n<cLine;omega) ir ja cy bz)
     have sz:(!((Qi (min its.toArray.size its'.toArray.size)).all (λj=>match ds[j]?,es[j]? with|some x,some y=>eqD x y|_,_=>false)&&its.toArray.size == its'.toArray.size))=(!eqD (.tup ds) (.tup es)):=by
      have a1:its.toArray.size=ds.length:=by simp;omega
      have a2:its'.toArray.size=es.length:=by simp;omega
      rw[a1,a2];simp only[eqD];rw[nY]
     rw[<-sz];exact key
def NW(K:Py):R2:=λx y H Q=>∃d e,Rep K H d x/\Rep K H e y/\d.depth<=40/\Q (.bl (eqD d e)) H
def NX(K:Py):R2:=λx y H Q=>∃d e,Rep K H d x/\Rep K H e y/\d.depth<=40/\Q (.bl (!eqD d e)) H
theorem JQ(hu:X.A.units+64<cLine)(K:Py)(hK:X.K=K):OpR X (Qn .Eq) (NW K):=by
 subst hK;intro pins s σ H x y v u Q I rx ry h;obtain⟨d,e,hx,hy,hd,q⟩:=h;exact LL I 40 d e X.A x y v u hd (by omega) hx hy rx ry X.prog X.w X.xe _ ⟨.bl _,H,I,rfl,q⟩
theorem JR(hu:X.A.units+64<cLine)(K:Py)(hK:X.K=K):OpR X (Qn .NotEq) (NX K):=by
 subst hK;intro pins s σ H x y v u Q I rx ry h;obtain⟨d,e,hx,hy,hd,q⟩:=h;exact JP I 40 d e X.A x y v u hd (by omega) hx hy rx ry X.prog X.w X.xe _ ⟨.bl _,H,I,rfl,q⟩
def D5(K:Py)(H:Hp)(ds:List D)(v:V):Prop:=∃a vs,v=.ref a/\SqL K H a vs/\cF K H ds vs
theorem wA{xs ys:List D}(h:xs.length=ys.length):(Qi xs.length).all (λj=>match xs[j]?,ys[j]? with|some x,some y=>eqD x y|_,_=>false)=fO xs ys:=by
 have:=nY (xs:=xs) (ys:=ys);rw[h,Nat.min_self,beq_self_eq_true,Bool.and_true]at this;rw[h];exact this
theorem Ab{xs ys:List D}(h:fO xs ys=true):xs.length=ys.length:=by
 rw[<-nY,PZ]at h;exact eq_of_beq h.2
theorem sV{I:Inv X pins σ H s}{ds es:List D}(r:cF X.K H ds vs)(r':cF X.K H es fb)(rv:aI vs its)(ax:aI fb its')(hd:D.depths ds<=40)(hu:A.units+42<cLine):
  ∀j(h1:j<its.toArray.size)(h2:j<its'.toArray.size),EqAt A.in1 s its.toArray[j] its'.toArray[j] (match ds[j]?,es[j]? with|some x,some y=>eqD x y|_,_=>false):=λj h1 h2=>by
 have l1:=r.length;have l2:=r'.length;have l3:=rv.length;have l4:=ax.length;have iq:j<ds.length:=by simp at h1;omega
 have dg:j<es.length:=by simp at h2;omega
 have g1:ds[j]?=some ds[j]:=by simp[iq]
 have g2:es[j]?=some es[j]:=by simp[dg]
 obtain⟨xv,ki,ir⟩:=r.at g1;obtain⟨yv,k9,ja⟩:=r'.at g2;obtain⟨xu,jd,cy⟩:=rv.get ki;obtain⟨yu,iu,bz⟩:=ax.get k9;have e1:its.toArray[j]=xu:=by simpa using(Pv.mp jd).2
 have e2:its'.toArray[j]=yu:=by simpa using(Pv.mp iu).2
 rw[e1,e2];simp only[g1,g2];have uk:=D.depths_le g1;exact Hg I (n:=40) (by omega) (by show A.units+1+40<cLine;omega) ir ja cy bz
def NY(K:Py):R2:=λx y H Q=>∃ds es,D5 K H ds x/\D5 K H es y/\D.depths ds<=40/\Q (.bl (fO ds es)) H
def NZ(K:Py):R2:=λx y H Q=>∃ds es,D5 K H ds x/\D5 K H es y/\D.depths ds<=40/\Q (.bl (!fO ds es)) H
theorem JS(hu:X.A.units+64<cLine)(K:Py)(hK:X.K=K):OpR X (Qn .Eq) (NY K):=by
 subst hK;intro pins s σ H x y v u Q I rx ry h;obtain⟨ds,es,⟨a,vs,rfl,q,r⟩,⟨b,fb,rfl,q',r'⟩,hd,k⟩:=h;cases rx;cases ry;obtain⟨its,rv,p,_⟩:=I.list q;obtain⟨its',ax,p',_⟩:=I.list q';have l1:=r.length;have l2:=r'.length;have l3:=rv.length;have l4:=ax.length
 by_cases hl:ds.length=es.length
 ·refine eq_listAt p.isList p'.isList (by simp;omega) (by omega) (sV (I:=I) r r' rv ax hd (by omega)) ⟨.bl _,H,I,rfl,?_⟩;have e1:its.toArray.size=ds.length:=by simp;omega
  rw[e1,wA hl];exact k
 ·refine eq_list_lengthsAt p.isList p'.isList (by simp;omega) (by omega) ⟨.bl false,H,I,rfl,?_⟩;have e:fO ds es=false:=by
   cases h:fO ds es with
   |false=>rfl
   |true=>exact absurd (Ab h) hl
  rw[e]at k;exact k
theorem JT(hu:X.A.units+64<cLine)(K:Py)(hK:X.K=K):OpR X (Qn .NotEq) (NZ K):=by
 subst hK;intro pins s σ H x y v u Q I rx ry h;obtain⟨ds,es,⟨a,vs,rfl,q,r⟩,⟨b,fb,rfl,q',r'⟩,hd,k⟩:=h;cases rx;cases ry;obtain⟨its,rv,p,_⟩:=I.list q;obtain⟨its',ax,p',_⟩:=I.list q';have l1:=r.length;have l2:=r'.length;have l3:=rv.length;have l4:=ax.length
 by_cases hl:ds.length=es.length
 ·refine RcNeAt.lists p.isList p'.isList (by simp;omega) (by omega) (sV (I:=I) r r' rv ax hd (by omega)) X.prog X.w X.xe _ ⟨.bl _,H,I,rfl,?_⟩;have e1:its.toArray.size=ds.length:=by simp;omega
  rw[e1,wA hl];exact k
 ·refine RcNeAt.lists_lengths p.isList p'.isList (by simp;omega) (by omega) X.prog X.w X.xe _ ⟨.bl true,H,I,rfl,?_⟩;have e:fO ds es=false:=by
   cases h:fO ds es with
   |false=>rfl
   |true=>exact absurd (Ab h) hl
  rw[e]at k;exact k
def LM(K:Py)(neg:Bool):R2:=λx y H Q=>∃d p ds vs,y=.ref p/\(SqL K H p vs\/SqT K H p vs)/\Rep K H d x/\cF K H ds vs/\D.depths ds<=40/\Q (.bl (if neg then !ds.any (λe=>eqD e d) else ds.any (λe=>eqD e d))) H
noncomputable def isD(K:Py)(H:Hp)(d:D)(u:Value):Bool:=@decide (∃e x,RelV x u/\Rep K H e x/\e.depth<=40/\eqD e d=true) (Ri _)
theorem Er(I:Inv X pins σ H s){d e:D}{x:V}(r:RelV x u)(h:Rep X.K H e x)(hd:e.depth<=40):isD X.K H d u=eqD e d:=by
 unfold isD;cases q:eqD e d with
 |true=>exact @decide_eq_true _ (Ri _) ⟨e,x,r,h,hd,q⟩
 |false=>
  refine @decide_eq_false _ (Ri _) ?_;rintro⟨e',x',r',h',cg,q'⟩;have ex:x'=x:=RelV.inj r' r;subst ex;rw[sA I 40 e' e x' cg h' h]at q';rw[q]at q';cases q'
theorem nZ(I:Inv X pins σ H s){d:D}:∀{ds:List D}{vs:List V}{us:List Value},cF X.K H ds vs->aI vs us->D.depths ds<=40->us.any (isD X.K H d)=ds.any λe=>eqD e d
 |[],[],_,_,.nil,_=>rfl
 |e::ds,_::_,_,⟨h,r⟩,.cons rv jy,hd=>by
  have h1:e.depth<=40/\D.depths ds<=40:=by
   have:max e.depth (D.depths ds)<=40:=hd;omega
  rw[RI,RI,Er I rv h h1.1,nZ I r jy h1.2]
 |[],_::_,_,h,_,_=>h.elim
 |_::_,[],_,h,_,_=>h.elim
theorem oA(I:Inv X pins σ H s){A:Around}{d:D}{x:V}{v:Value}(hx:Rep X.K H d x)(rx:RelV x v)(hu:A.units+42<cLine):∀{ds:List D}{vs:List V}{us:List Value},cF X.K H ds vs->aI vs us->D.depths ds<=40->∀u∈us,EqAt A.in1 s u v (isD X.K H d u)
 |[],[],_,_,.nil,_=>λu hu=>by cases hu
 |e::ds,_::_,_,⟨h,r⟩,.cons rv jy,hd=>λu hm=>by
  have h1:e.depth<=40/\D.depths ds<=40:=by
   have:max e.depth (D.depths ds)<=40:=hd;omega
  rcases P5.mp hm with rfl|hm
  ·rw[Er I rv h h1.1];exact Hg I (n:=40) h1.1 (by show A.units+1+40<cLine;omega) h hx rv rx
  ·exact oA I hx rx hu r jy h1.2 u hm
 |[],_::_,_,h,_,_=>h.elim
 |_::_,[],_,h,_,_=>h.elim
theorem JU(hu:X.A.units+64<cLine)(K:Py)(hK:X.K=K):OpR X (Qn .In) (LM K false):=by
 subst hK;intro pins s σ H x y v u Q I rx ry h;obtain⟨d,p,ds,vs,rfl,hq,hx,hr,hd,k⟩:=h;cases ry
 rcases hq with hq|hq
 ·obtain⟨its,r,pl,hz⟩:=I.list hq;refine SeqAt.in_listAt (isD X.K H d) pl.isList (λw hw=>oA I hx rx (by omega) hr r hd w (by simpa using hw)) ⟨.bl _,H,I,rfl,?_⟩
  rw[show its.toArray.any (isD X.K H d)=its.any (isD X.K H d) by simp,nZ I hr r hd];exact k
 ·obtain⟨its,r,pl,hz⟩:=I.tuple hq;refine SeqAt.in_tupleAt (isD X.K H d) pl (λw hw=>oA I hx rx (by omega) hr r hd w (by simpa using hw)) ⟨.bl _,H,I,rfl,?_⟩
  rw[show its.toArray.any (isD X.K H d)=its.any (isD X.K H d) by simp,nZ I hr r hd];exact k
theorem D6(hu:X.A.units+64<cLine)(K:Py)(hK:X.K=K):OpR X (Qn .NotIn) (LM K true):=by
 subst hK;intro pins s σ H x y v u Q I rx ry h;obtain⟨d,p,ds,vs,rfl,hq,hx,hr,hd,k⟩:=h;cases ry
 rcases hq with hq|hq
 ·obtain⟨its,r,pl,hz⟩:=I.list hq;refine SeqAt.notIn_listAt (isD X.K H d) pl.isList (λw hw=>oA I hx rx (by omega) hr r hd w (by simpa using hw)) ⟨.bl _,H,I,rfl,?_⟩
  rw[show its.toArray.any (isD X.K H d)=its.any (isD X.K H d) by simp,nZ I hr r hd];exact k
 ·obtain⟨its,r,pl,hz⟩:=I.tuple hq;refine SeqAt.notIn_tupleAt (isD X.K H d) pl (λw hw=>oA I hx rx (by omega) hr r hd w (by simpa using hw)) ⟨.bl _,H,I,rfl,?_⟩
  rw[show its.toArray.any (isD X.K H d)=its.any (isD X.K H d) by simp,nZ I hr r hd];exact k
end
open PySem
def keyLt:Sum Int Str->Sum Int Str->Bool
 |.inl a,.inl b=>decide (a<b)
 |.inr a,.inr b=>decide (a.cps.toList<b.cps.toList)
 |_,_=>false
def aZ:List (Sum Int Str)->List (Sum Int Str)->Bool
 |[],[]=>false
 |[],_::_=>true
 |_::_,[]=>false
 |x::xs,y::ys=>if x=y then aZ xs ys else keyLt x y
def cP:Sum Int Str->Bool
 |.inl _=>true
 |.inr _=>false
abbrev shape(ks:List (Sum Int Str)):List Bool:=ks.map cP
theorem Hh{a b:Str}(h:a.cps.toList=b.cps.toList):a=b:=by
 cases a;cases b
 congr
 exact Array.toList_inj.mp h
theorem Es{a b:Sum Int Str}(h:keyLt a b=true):keyLt b a=false:=by
 cases a <;> cases b <;> first|rfl|skip
 ·have:_<_:=of_decide_eq_true h;exact decide_eq_false (by omega)
 ·exact decide_eq_false (List.lt_asymm (of_decide_eq_true h))
theorem wB{a b:Sum Int Str}(k:cP a=cP b)(h:keyLt a b=false)(h':keyLt b a=false):a=b:=by
 cases a <;> cases b <;> first|cases k|skip
 ·have h1:=of_decide_eq_false h;have h2:=of_decide_eq_false h'
  congr 1
  omega
 ·have h1:=of_decide_eq_false h;have h2:=of_decide_eq_false h'
  congr 1
  exact Hh (List.le_antisymm (List.not_lt.mp h2) (List.not_lt.mp h1))
theorem Et:∀{a b c:Sum Int Str},cP a=cP b->cP b=cP c->keyLt b a=false->keyLt c b=false->keyLt c a=false
 |.inl a,.inl b,.inl c,_,_,h,h'=>by
  have h1:¬ b<a:=of_decide_eq_false h;have h2:¬ c<b:=of_decide_eq_false h';exact decide_eq_false (by omega)
 |.inr a,.inr b,.inr c,_,_,h,h'=>by
  have h1:a.cps.toList<=b.cps.toList:=List.not_lt.mp (of_decide_eq_false h);have h2:b.cps.toList<=c.cps.toList:=List.not_lt.mp (of_decide_eq_false h');exact decide_eq_false (List.not_lt.mpr (List.le_trans h1 h2))
 |.inl _,.inr _,_,k,_,_,_=>by cases k
 |.inr _,.inl _,_,k,_,_,_=>by cases k
 |.inl _,.inl _,.inr _,_,k,_,_=>by cases k
 |.inr _,.inr _,.inl _,_,k,_,_=>by cases k
theorem oB:∀{a b:List (Sum Int Str)},aZ a b=true->aZ b a=false
 |[],[],_=>rfl
 |[],_::_,_=>rfl
 |_::_,[],h=>by cases h
 |x::xs,y::ys,h=>by
  unfold aZ at h⊢
  by_cases e:x=y
  ·subst e;rw[if_pos rfl]at h⊢;exact oB h
  ·rw[if_neg e]at h;rw[if_neg λz=>e z.symm];exact Es h
theorem oC:∀{a b:List (Sum Int Str)},shape a=shape b->aZ a b=false->aZ b a=false->a=b
 |[],[],_,_,_=>rfl
 |[],_::_,s,_,_=>by cases s
 |_::_,[],s,_,_=>by cases s
 |x::xs,y::ys,s,h,h'=>by
  have s1:cP x=cP y:=by simpa using congrArg List.head? s
  have s2:shape xs=shape ys:=by simpa using congrArg List.tail s
  unfold aZ at h h'
  by_cases e:x=y
  ·subst e;rw[if_pos rfl]at h h';rw[oC s2 h h']
  ·rw[if_neg e]at h;rw[if_neg λz=>e z.symm]at h';exact absurd (wB s1 h h') e
theorem lG:∀{a b c:List (Sum Int Str)},shape a=shape b->shape b=shape c->aZ b a=false->aZ c b=false->aZ c a=false
 |[],[],[],_,_,_,_=>rfl
 |[],[],_::_,_,s',_,_=>by cases s'
 |[],_::_,_,s,_,_,_=>by cases s
 |_::_,[],_,s,_,_,_=>by cases s
 |_::_,_::_,[],_,s',_,_=>by cases s'
 |x::xs,y::ys,z::zs,s,s',h,h'=>by
  have s1:cP x=cP y:=by simpa using congrArg List.head? s
  have s2:shape xs=shape ys:=by simpa using congrArg List.tail s
  have s3:cP y=cP z:=by simpa using congrArg List.head? s'
  have s4:shape ys=shape zs:=by simpa using congrArg List.tail s'
  unfold aZ at h h'⊢
  by_cases e:y=x
  ·subst e;rw[if_pos rfl]at h
   by_cases e':z=y
   ·subst e';rw[if_pos rfl]at h'⊢;exact lG s2 s4 h h'
   ·rw[if_neg e']at h'⊢;exact h'
  ·rw[if_neg e]at h
   by_cases e':z=y
   ·subst e';rw[if_neg e];exact h
   ·rw[if_neg e']at h'
    by_cases e2:z=x
    ·subst e2;exfalso;exact e (wB s3 h h')
    ·rw[if_neg e2];exact Et s1 s3 h h'
open PySem PySem.W PyProof.Rows
section
variable(lt:Nat->Nat->Bool)
def evT{α:Type}:KasT α->α
 |.ret a=>a
 |.ask i j k=>evT (k (lt i j))
theorem iE{α β:Type}(f:α->KasT β):∀t:KasT α,evT lt (t.bind f)=evT lt (f (evT lt t))
 |.ret _=>rfl
 |.ask i j k=>iE f (k (lt i j))
abbrev pa'(p:Array Nat)(i:Nat):Nat:=p.getD i 0
def STo(p:Array Nat)(k:Nat):Prop:=∀i j,i<=j->j<k->lt (pa' p j) (pa' p i)=false
def NIc(p:Array Nat)(k:Nat):Prop:=∀i j,i<=j->j<k->lt (pa' p i) (pa' p j)=false
end
theorem fT{p:Array Nat}:pa' p i=(p[i]?).getD 0:=by
 unfold pa';simp[Array.getD_eq_getD_getElem?]
structure Eu(lt:Nat->Nat->Bool)(p:Array Nat)(n f:Nat)(r:Array Nat×Nat×Nat):Prop where
 perm:r.1.Perm p
 lo:n<=r.2.1
 hi:r.2.1<=n+f
 q:r.2.2+1<=r.2.1
 ni:NIc lt r.1 r.2.1
 eq:∀i j,r.2.1-(r.2.2+1)<=i->i<r.2.1->r.2.1-(r.2.2+1)<=j->j<r.2.1->lt (pa' r.1 i) (pa' r.1 j)=false
variable{nrem:Nat}
section
variable{lt:Nat->Nat->Bool}(tr:∀i j k,lt j i=false->lt k j=false->lt k i=false)(as:∀i j,lt i j=true->lt j i=false)
include as in
theorem fJ(i:Nat):lt i i=false:=by
 cases h:lt i i with
 |false=>rfl
 |true=>have:=as i i h;rw[h]at this;exact this
include tr as
theorem B8(p:Array Nat):∀f n,1<=n->STo lt p n->n<=evT lt (kas_asc p f n)/\evT lt (kas_asc p f n)<=n+f/\STo lt p (evT lt (kas_asc p f n))
 |0,n,_,h=>⟨PD _,PD _,h⟩
 |f+1,n,h1,h=>by
  have e:evT lt (kas_asc p (f+1) n)=evT lt (if lt (p.getD n 0) (p.getD (n-1) 0)=true then KasT.ret n else kas_asc p f (n+1)):=rfl;rw[e]
  by_cases c:lt (p.getD n 0) (p.getD (n-1) 0)=true
  ·rw[if_pos c];exact⟨PD _,Nat.le_add_right _ _,h⟩
  ·rw[if_neg c];have c':lt (p.getD n 0) (p.getD (n-1) 0)=false:=by simpa using c
   have h2:STo lt p (n+1):=λi j b9 hj=>by
    rcases Rj (Nat.le_of_lt_succ hj) with hj|rfl
    ·exact h i j b9 hj
    ·rcases Rj b9 with hi|rfl
     ·exact tr _ _ _ (h i (j-1) (by omega) (by omega)) c'
     ·exact fJ as _
   obtain⟨a,b,c⟩:=B8 p f (n+1) (by omega) h2;exact⟨by omega,by omega,c⟩
theorem rev_eq{p:Array Nat}{a:Nat}(hn:n<=p.size)(eq:∀i j,a<=i->i<n->a<=j->j<n->lt (pa' p i) (pa' p j)=false)(i j:Nat):
  lt (pa' (kas_rev p a n) i) (pa' (kas_rev p a n) j)=lt (pa' p i) (pa' p j):=by
 have g:∀k,pa' (kas_rev p a n) k=if a<=k/\k<n then pa' p (a+n-1-k) else pa' p k:=λk=>by
  rw[fT,fT,fT];unfold kas_rev;rw[getElem?_mirror_all hn];split <;> rfl
 have sim:∀k,∃k',pa' (kas_rev p a n) k=pa' p k'/\lt (pa' p k) (pa' p k')=false/\lt (pa' p k') (pa' p k)=false:=λk=>by
  rw[g]
  by_cases h:a<=k/\k<n
  ·rw[if_pos h];exact⟨_,rfl,eq _ _ h.1 h.2 (by omega) (by omega),eq _ _ (by omega) (by omega) h.1 h.2⟩
  ·rw[if_neg h];exact⟨k,rfl,fJ as _,fJ as _⟩
 obtain⟨i',ei,i1,i2⟩:=sim i;obtain⟨j',ej,j1,j2⟩:=sim j;rw[ei,ej];cases h1:lt (pa' p i) (pa' p j) with
 |false=>exact tr _ _ _ j1 (tr _ _ _ h1 i2)
 |true=>
  cases h2:lt (pa' p i') (pa' p j') with
  |true=>rfl
  |false=>
   have:=tr _ _ _ j2 (tr _ _ _ h2 i1);rw[h1]at this;exact this.symm
theorem yC:∀f (p:Array Nat) n q,n+f<=p.size->q+1<=n->NIc lt p n->(∀i j,n-(q+1)<=i->i<n->n-(q+1)<=j->j<n->lt (pa' p i) (pa' p j)=false)->Eu lt p n f (evT lt (kas_desc f p n q))
 |0,p,n,q,_,hq,hN,hE=>⟨Sx _,PD _,PD _,hq,hN,hE⟩
 |f+1,p,n,q,hs,hq,hN,hE=>by
  have e:evT lt (kas_desc (f+1) p n q)=evT lt (if lt (p.getD n 0) (p.getD (n-1) 0)=true then(if q>0 then kas_desc f (kas_rev p (n-(q+1)) n) (n+1) 0 else kas_desc f p (n+1) 0)
    else .ask (p.getD (n-1) 0) (p.getD n 0) λd=>if d=true then .ret (p,n,q) else kas_desc f p (n+1) (q+1)):=rfl
  by_cases c:lt (p.getD n 0) (p.getD (n-1) 0)=true
  ·have down:∀p':Array Nat,p'.Perm p->(∀i j,lt (pa' p' i) (pa' p' j)=lt (pa' p i) (pa' p j))->evT lt (kas_desc (f+1) p n q)=evT lt (kas_desc f p' (n+1) 0)->Eu lt p n (f+1) (evT lt (kas_desc (f+1) p n q)):=λp' hp hl zm=>by
    have j8:NIc lt p' (n+1):=λi j b9 hj=>by
     rw[hl];rcases Rj (Nat.le_of_lt_succ hj) with hj|rfl
     ·exact hN i j b9 hj
     ·rcases Rj b9 with hi|rfl
      ·exact tr _ _ _ (as _ _ c) (hN i (j-1) (by omega) (by omega))
      ·exact fJ as _
    have o2:∀i j,n+1-(0+1)<=i->i<n+1->n+1-(0+1)<=j->j<n+1->lt (pa' p' i) (pa' p' j)=false:=λi j h1 h2 h3 h4=>by
     have:i=j:=by omega
     subst this;exact fJ as _
    have ih:=yC f p' (n+1) 0 (by rw[hp.size_eq];omega) (by omega) j8 o2;rw[<-zm]at ih;obtain⟨a1,a2,a3,a4,a5,a6⟩:=ih;exact⟨a1.trans hp,by omega,by omega,a4,a5,a6⟩
   rw[if_pos c]at e
   by_cases hq0:q>0
   ·rw[if_pos hq0]at e;exact down _ (Sy _ _ _ _) (rev_eq tr as (by omega) hE) e
   ·rw[if_neg hq0]at e;exact down p (Sx _) (λ_ _=>rfl) e
  ·rw[if_neg c]at e;have c':lt (p.getD n 0) (p.getD (n-1) 0)=false:=by simpa using c
   have e2:evT lt (kas_desc (f+1) p n q)=evT lt (if lt (p.getD (n-1) 0) (p.getD n 0)=true then KasT.ret (p,n,q) else kas_desc f p (n+1) (q+1)):=e
   by_cases d:lt (p.getD (n-1) 0) (p.getD n 0)=true
   ·rw[if_pos d]at e2;rw[e2];exact⟨Sx _,PD _,Nat.le_add_right _ _,hq,hN,hE⟩
   ·rw[if_neg d]at e2;have d':lt (p.getD (n-1) 0) (p.getD n 0)=false:=by simpa using d
    have j8:NIc lt p (n+1):=λi j b9 hj=>by
     rcases Rj (Nat.le_of_lt_succ hj) with hj|rfl
     ·exact hN i j b9 hj
     ·rcases Rj b9 with hi|rfl
      ·exact tr _ _ _ d' (hN i (j-1) (by omega) (by omega))
      ·exact fJ as _
    have o2:∀i j,n+1-(q+1+1)<=i->i<n+1->n+1-(q+1+1)<=j->j<n+1->lt (pa' p i) (pa' p j)=false:=λi j h1 h2 h3 h4=>by
     by_cases hi:i=n
     ·by_cases hj:j=n
      ·rw[hi,hj];exact fJ as _
      ·rw[hi];exact tr _ _ _ (hE (n-1) j (by omega) (by omega) (by omega) (by omega)) c'
     ·by_cases hj:j=n
      ·rw[hj];exact tr _ _ _ d' (hE i (n-1) (by omega) (by omega) (by omega) (by omega))
      ·exact hE i j (by omega) (by omega) (by omega) (by omega)
    have ih:=yC f p (n+1) (q+1) (by omega) (by omega) j8 o2;rw[<-e2]at ih;obtain⟨a1,a2,a3,a4,a5,a6⟩:=ih;exact⟨a1,by omega,by omega,a4,a5,a6⟩
theorem Ad{p:Array Nat}(h1:1<=n)(hn:n<=nrem)(hz:nrem<=p.size)(hN:NIc lt p n):
  n<=(evT lt (kas_tail3 n nrem p)).1/\(evT lt (kas_tail3 n nrem p)).1<=nrem/\(evT lt (kas_tail3 n nrem p)).2.Perm p/\STo lt (evT lt (kas_tail3 n nrem p)).2 (evT lt (kas_tail3 n nrem p)).1:=by
 have e:evT lt (kas_tail3 n nrem p)=(evT lt (kas_asc (kas_rev p 0 n) (nrem-n) n),kas_rev p 0 n):=by
  unfold kas_tail3;rw[iE];rfl
 have g:∀k,k<n->pa' (kas_rev p 0 n) k=pa' p (n-1-k):=λk hk=>by
  rw[fT,fT];unfold kas_rev;rw[getElem?_mirror_all (by omega),if_pos (by omega)]
  congr 2
  omega
 have hS:STo lt (kas_rev p 0 n) n:=λi j b9 hj=>by
  rw[g i (by omega),g j hj];exact hN _ _ (by omega) (by omega)
 obtain⟨a,b,c⟩:=B8 tr as (kas_rev p 0 n) (nrem-n) n h1 hS;rw[e];exact⟨a,by show evT lt (kas_asc (kas_rev p 0 n) (nrem-n) n)<=nrem;omega,Sy _ _ _ _,c⟩
theorem rF{p:Array Nat}(h1:1<=n)(hn:n+1<=nrem)(hz:nrem<=p.size)(hN:NIc lt p n)(hd:lt (pa' p n) (pa' p (n-1))=true):
  1<=(evT lt (kas_descPart n nrem p)).1/\(evT lt (kas_descPart n nrem p)).1<=nrem/\(evT lt (kas_descPart n nrem p)).2.Perm p/\STo lt (evT lt (kas_descPart n nrem p)).2 (evT lt (kas_descPart n nrem p)).1:=by
 have j8:NIc lt p (n+1):=λi j b9 hj=>by
  rcases Rj (Nat.le_of_lt_succ hj) with hj|rfl
  ·exact hN i j b9 hj
  ·rcases Rj b9 with hi|rfl
   ·exact tr _ _ _ (as _ _ hd) (hN i (j-1) (by omega) (by omega))
   ·exact fJ as _
 have o2:∀i j,n+1-(0+1)<=i->i<n+1->n+1-(0+1)<=j->j<n+1->lt (pa' p i) (pa' p j)=false:=λi j h1 h2 h3 h4=>by
  have:i=j:=by omega
  subst this;exact fJ as _
 have D:=yC tr as (nrem-(n+1)) p (n+1) 0 (by omega) (by omega) j8 o2;have e:evT lt (kas_descPart n nrem p)=evT lt (if(evT lt (kas_desc (nrem-(n+1)) p (n+1) 0)).2.2>0 then kas_tail3 (evT lt (kas_desc (nrem-(n+1)) p (n+1) 0)).2.1 nrem (kas_rev (evT lt (kas_desc (nrem-(n+1)) p (n+1) 0)).1 ((evT lt (kas_desc (nrem-(n+1)) p (n+1) 0)).2.1-((evT lt (kas_desc (nrem-(n+1)) p (n+1) 0)).2.2+1)) (evT lt (kas_desc (nrem-(n+1)) p (n+1) 0)).2.1) else kas_tail3 (evT lt (kas_desc (nrem-(n+1)) p (n+1) 0)).2.1 nrem (evT lt (kas_desc (nrem-(n+1)) p (n+1) 0)).1):=by
  unfold kas_descPart;rw[iE]
 generalize evT lt (kas_desc (nrem-(n+1)) p (n+1) 0)=r at D e;obtain⟨a1,a2,a3,a4,a5,a6⟩:=D;have sz:r.1.size=p.size:=a1.size_eq;rw[e]
 by_cases hq:r.2.2>0
 ·rw[if_pos hq];have hl:=rev_eq tr as (p:=r.1) (a:=r.2.1-(r.2.2+1)) (n:=r.2.1) (by omega) a6;obtain⟨b1,b2,b3,b4⟩:=Ad tr as (n:=r.2.1) (nrem:=nrem) (p:=kas_rev r.1 (r.2.1-(r.2.2+1)) r.2.1) (by omega) (by omega) (by unfold kas_rev;rw[mirror_size];omega) (λi j b9 hj=>by rw[hl];exact a5 i j b9 hj);exact⟨by omega,b2,(b3.trans (Sy _ _ _ _)).trans a1,b4⟩
 ·rw[if_neg hq];obtain⟨b1,b2,b3,b4⟩:=Ad tr as (n:=r.2.1) (nrem:=nrem) (p:=r.1) (by omega) (by omega) (by omega) a5;exact⟨by omega,b2,b3.trans a1,b4⟩
theorem sW(p:Array Nat):∀f n,1<=n->evT lt (kas_asc p f n)<n+f->lt (pa' p (evT lt (kas_asc p f n))) (pa' p (evT lt (kas_asc p f n)-1))=true
 |0,n,_,h=>absurd h (Q8 _)
 |f+1,n,h1,h=>by
  have e:evT lt (kas_asc p (f+1) n)=evT lt (if lt (p.getD n 0) (p.getD (n-1) 0)=true then KasT.ret n else kas_asc p f (n+1)):=rfl;rw[e]at h⊢
  by_cases c:lt (p.getD n 0) (p.getD (n-1) 0)=true
  ·rw[if_pos c];exact c
  ·rw[if_neg c]at h⊢;exact sW p f (n+1) (by omega) (by omega)
theorem Ew{p:Array Nat}(h1:1<=nrem)(hz:nrem<=p.size):
  1<=(evT lt (kas_count nrem p)).1/\(evT lt (kas_count nrem p)).1<=nrem/\(evT lt (kas_count nrem p)).2.Perm p/\STo lt (evT lt (kas_count nrem p)).2 (evT lt (kas_count nrem p)).1:=by
 have h0:STo lt p 1:=λi j b9 hj=>by
  have:i=j:=by omega
  subst this;exact fJ as _
 obtain⟨a,b,c⟩:=B8 tr as p (nrem-1) 1 (PD _) h0;have stop:=sW tr as p (nrem-1) 1 (PD _);have e:evT lt (kas_count nrem p)=evT lt (if(evT lt (kas_asc p (nrem-1) 1) == nrem)=true then .ret (evT lt (kas_asc p (nrem-1) 1),p) else if evT lt (kas_asc p (nrem-1) 1)>1 then .ask (p.getD 0 0) (p.getD (evT lt (kas_asc p (nrem-1) 1)-1) 0) λc=>if c=true then .ret (evT lt (kas_asc p (nrem-1) 1),p) else kas_descPart (evT lt (kas_asc p (nrem-1) 1)) nrem (kas_rev p 0 (evT lt (kas_asc p (nrem-1) 1))) else kas_descPart (evT lt (kas_asc p (nrem-1) 1)) nrem p):=by
  unfold kas_count;rw[iE]
 generalize evT lt (kas_asc p (nrem-1) 1)=n at a b c e stop;rw[e]
 by_cases hn:(n == nrem)=true
 ·rw[if_pos hn];exact⟨a,by show n<=nrem;omega,Sx _,c⟩
 ·rw[if_neg hn];have qc:n≠nrem:=by simpa using hn
  have st:=stop (by omega)
  by_cases h2:n>1
  ·rw[if_pos h2];have e2:∀k:Bool->KasT (Nat×Array Nat),evT lt (.ask (p.getD 0 0) (p.getD (n-1) 0) k)=evT lt (k (lt (p.getD 0 0) (p.getD (n-1) 0))):=λ_=>rfl;rw[e2]
   by_cases h3:lt (p.getD 0 0) (p.getD (n-1) 0)=true
   ·rw[if_pos h3];exact⟨a,by show n<=nrem;omega,Sx _,c⟩
   ·rw[if_neg h3];have Pm:lt (pa' p 0) (pa' p (n-1))=false:=by simpa using h3
    have eq:∀i j,0<=i->i<n->0<=j->j<n->lt (pa' p i) (pa' p j)=false:=λi j _ hi _ hj=>by
     exact tr _ _ _ (c j (n-1) (by omega) (by omega)) (tr _ _ _ Pm (c 0 i (by omega) hi))
    have hl:=rev_eq tr as (p:=p) (a:=0) (n:=n) (by omega) eq;have g:pa' (kas_rev p 0 n) n=pa' p n:=by
     rw[fT,fT];unfold kas_rev;rw[getElem?_mirror_all (by omega),if_neg (by omega)]
    obtain⟨b1,b2,b3,b4⟩:=rF tr as (n:=n) (nrem:=nrem) (p:=kas_rev p 0 n) a (by omega) (by unfold kas_rev;rw[mirror_size];omega) (λi j b9 hj=>by rw[hl];exact eq i j (by omega) (by omega) (by omega) hj) (by rw[hl];exact st);exact⟨b1,b2,b3.trans (Sy _ _ _ _),b4⟩
  ·rw[if_neg h2];have zi:n=1:=by omega
   subst zi;exact rF tr as (n:=1) (nrem:=nrem) (p:=p) (PD _) (by omega) hz (λi j b9 hj=>by
    have:i=j:=by omega
    subst this;exact fJ as _) st
theorem sX(p:Array Nat)(k:Nat)(hS:STo lt p k):∀f l r,r-l<=f->l<=r->r<=k->(∀i,i<l->lt (pa' p k) (pa' p i)=false)->(∀i,r<=i->i<k->lt (pa' p k) (pa' p i)=true)->
  l<=evT lt (kas_place p k f l r)/\evT lt (kas_place p k f l r)<=k/\(∀i,i<evT lt (kas_place p k f l r)->lt (pa' p k) (pa' p i)=false)/\(∀i,evT lt (kas_place p k f l r)<=i->i<k->lt (pa' p k) (pa' p i)=true)
 |0,l,r,hf,hl,hr,h1,h2=>by
  have:l=r:=by omega
  subst this;exact⟨PD _,hr,h1,h2⟩
 |f+1,l,r,hf,hl,hr,h1,h2=>by
  have e:evT lt (kas_place p k (f+1) l r)=evT lt (if l >= r then .ret l else .ask (p.getD k 0) (p.getD ((l+r)/2) 0) λc=>if c=true then kas_place p k f l ((l+r)/2) else kas_place p k f ((l+r)/2+1) r):=rfl;rw[e]
  by_cases ju:l >= r
  ·rw[if_pos ju];have:l=r:=by omega
   subst this;exact⟨PD _,hr,h1,h2⟩
  ·rw[if_neg ju];have e2:∀q:Bool->KasT Nat,evT lt (.ask (p.getD k 0) (p.getD ((l+r)/2) 0) q)=evT lt (q (lt (p.getD k 0) (p.getD ((l+r)/2) 0))):=λ_=>rfl;rw[e2]
   by_cases c:lt (p.getD k 0) (p.getD ((l+r)/2) 0)=true
   ·rw[if_pos c];refine sX p k hS f l ((l+r)/2) (by omega) (by omega) (by omega) h1 λi hi hk=>?_;cases q:lt (pa' p k) (pa' p i) with
    |true=>rfl
    |false=>
     have:=tr _ _ _ (hS ((l+r)/2) i hi hk) q;rw[show lt (pa' p k) (pa' p ((l+r)/2))=true from c]at this
     exact this.symm
   ·rw[if_neg c];have c':lt (pa' p k) (pa' p ((l+r)/2))=false:=by simpa using c
    obtain⟨b1,b2,b3,b4⟩:=sX p k hS f ((l+r)/2+1) r (by omega) (by omega) hr (λi hi=>by
     cases q:lt (pa' p k) (pa' p i) with
     |false=>rfl
     |true=>
      exfalso;have s1:=hS i ((l+r)/2) (by omega) (by omega);have s2:=as _ _ q;have:lt (pa' p k) (pa' p i)=false:=by
       -- p[mid]<=p[k] (c'),p[i]<=p[mid]
       exact tr _ _ _ s1 c'
      rw[q]at this;cases this) h2
    exact⟨by omega,b2,b3,b4⟩
theorem Ex:∀f (p:Array Nat) k,1<=k->k+f<=p.size->STo lt p k->(evT lt (kas_bin f p k)).Perm p/\STo lt (evT lt (kas_bin f p k)) (k+f)
 |0,p,k,_,_,h=>⟨Sx _,h⟩
 |f+1,p,k,h1,hz,h=>by
  have e:evT lt (kas_bin (f+1) p k)=evT lt (kas_bin f (bubble p k (k-evT lt (kas_place p k k 0 k))) (k+1)):=by
   show evT lt ((kas_place p k k 0 k).bind λl=>kas_bin f (bubble p k (k-l)) (k+1))=_
   rw[iE]
  obtain⟨b1,b2,b3,b4⟩:=sX tr as p k h k 0 k (by omega) (Qd _) (PD _) (λi hi=>absurd hi (Ta _)) (λi hi hk=>absurd hk (by omega));generalize evT lt (kas_place p k k 0 k)=l at e b1 b2 b3 b4;have g:∀i,pa' (bubble p k (k-l)) i=if i=l then pa' p k else if l<i/\i<=k then pa' p (i-1) else pa' p i:=λi=>by
   rw[fT,fT,fT,fT,getElem?_bubble (by omega) _ (by omega)];have el:k-(k-l)=l:=by omega
   rw[el];split
   ·rfl
   ·split <;> rfl
  have hS:STo lt (bubble p k (k-l)) (k+1):=λi j b9 hj=>by
   rw[g i,g j]
   by_cases hj1:j=l
   ·by_cases hi1:i=l
    ·rw[if_pos hj1,if_pos hi1];exact fJ as _
    ·rw[if_pos hj1,if_neg hi1,if_neg (by omega)];exact b3 i (by omega)
   ·rw[if_neg hj1]
    by_cases hi1:i=l
    ·rw[if_pos hi1,if_pos (by omega)];exact as _ _ (b4 (j-1) (by omega) (by omega))
    ·rw[if_neg hi1]
     by_cases sx:l<j/\j<=k
     ·rw[if_pos sx]
      by_cases ph:l<i/\i<=k
      ·rw[if_pos ph];exact h _ _ (by omega) (by omega)
      ·rw[if_neg ph];exact h _ _ (by omega) (by omega)
     ·rw[if_neg sx,if_neg (by omega)];exact h _ _ b9 (by omega)
  have ih:=Ex f (bubble p k (k-l)) (k+1) (by omega) (by rw[bubble_size];omega) hS;rw[e];exact⟨ih.1.trans (bubble_perm _ _ _),by rw[show k+(f+1)=k+1+f by omega];exact ih.2⟩
theorem Hi(h1:1<=n):(evT lt (kas_sort n)).toList.Perm (Qi n)/\(evT lt (kas_sort n)).toList.Pairwise (λi j=>lt j i=false):=by
 have e:evT lt (kas_sort n)=evT lt (if(evT lt (kas_count n (Se (Qi n)))).1<n then kas_bin (n-max (evT lt (kas_count n (Se (Qi n)))).1 1) (evT lt (kas_count n (Se (Qi n)))).2 (max (evT lt (kas_count n (Se (Qi n)))).1 1) else .ret (evT lt (kas_count n (Se (Qi n)))).2):=by
  unfold kas_sort;rw[iE]
 obtain⟨a1,a2,a3,a4⟩:=Ew tr as (nrem:=n) (p:=Se (Qi n)) h1 (by simp);generalize evT lt (kas_count n (Se (Qi n)))=r at e a1 a2 a3 a4;have fin:∀p:Array Nat,p.Perm (Se (Qi n))->STo lt p n->p.toList.Perm (Qi n)/\p.toList.Pairwise (λi j=>lt j i=false):=λp hp hs=>by
  have hsz:p.size=n:=by rw[hp.size_eq];simp
  refine⟨by simpa using Array.perm_iff_toList_perm.mp hp,?_⟩
  rw[List.pairwise_iff_getElem];intro i j hi hj b9;have ay:i<p.size:=by simpa using hi
  have jk:j<p.size:=by simpa using hj
  have:=hs i j (Rt b9) (by omega);simpa[pa',Array.getD,ay,jk] using this
 rw[e]
 by_cases ao:r.1<n
 ·rw[if_pos ao];have hm:max r.1 1=r.1:=by omega
  rw[hm];obtain⟨b1,b2⟩:=Ex tr as (n-r.1) r.2 r.1 a1 (by rw[a3.size_eq];simp;omega) a4;refine fin _ (b1.trans a3) ?_;rw[show r.1+(n-r.1)=n by omega]at b2;exact b2
 ·rw[if_neg ao];have:r.1=n:=by omega
  exact fin _ a3 (this▸a4)
end
open PySem PySem.Spec PyProof.Rows PySem.SeqAt PySem.W
def InP{α:Type}(n:Nat)(P:α->Prop):KasT α->Prop
 |.ret a=>P a
 |.ask i j k=>i<n/\j<n/\∀b,InP n P (k b)
theorem InP.bind{α β:Type}{P:α->Prop}{Q:β->Prop}{f:α->KasT β}:∀{t:KasT α},InP n P t->(∀a,P a->InP n Q (f a))->InP n Q (t.bind f)
 |.ret a,h,hf=>hf a h
 |.ask i j k,⟨h1,h2,h3⟩,hf=>⟨h1,h2,λb=>InP.bind (h3 b) hf⟩
theorem InP.mono{α:Type}{P Q:α->Prop}(hq:∀a,P a->Q a):∀{t:KasT α},InP n P t->InP n Q t
 |.ret a,h=>hq a h
 |.ask i j k,⟨h1,h2,h3⟩=>⟨h1,h2,λb=>InP.mono hq (h3 b)⟩
def AllLt(n:Nat)(p:Array Nat):Prop:=∀k,p.getD k 0<n
theorem AllLt.of{p q:Array Nat}(h:AllLt n p)(g:∀k:Nat,q[k]?=none\/∃k':Nat,q[k]?=p[k']?)(hn:0<n):AllLt n q:=λk=>by
 have e:∀(r:Array Nat) k,r.getD k 0=(r[k]?).getD 0:=λr k=>by simp[Array.getD_eq_getD_getElem?]
 rw[e];rcases g k with h1|⟨k',h1⟩
 ·rw[h1];exact hn
 ·rw[h1,<-e];exact h k'
theorem AllLt.perm{p q:Array Nat}(h:AllLt n p)(hp:q.Perm p)(hn:0<n):AllLt n q:=by
 refine AllLt.of h (λk=>?_) hn;cases e:q[k]? with
 |none=>exact .inl rfl
 |some v=>
  right;have hm:v∈q.toList:=by
   have:q.toList[k]?=some v:=by simpa using e
   exact Qp this
  have pd:v∈p.toList:=(Array.perm_iff_toList_perm.mp hp).mem_iff.mp hm;obtain⟨k',hk⟩:=Sz.mp pd;exact⟨k',by rw[<-hk];simp⟩
section
variable(hn:0<n)
include hn
theorem yD{p:Array Nat}(h:AllLt n p):∀f m,InP n (λ_=>True) (kas_asc p f m)
 |0,m=>trivial
 |f+1,m=>⟨h _,h _,λb=>by
  cases b with
  |true=>exact trivial
  |false=>exact yD h f (m+1)⟩
theorem oE:∀f (p:Array Nat) m q,AllLt n p->InP n (λr=>AllLt n r.1) (kas_desc f p m q)
 |0,p,m,q,h=>h
 |f+1,p,m,q,h=>⟨h _,h _,λb=>by
  cases b with
  |true=>
   show InP n _ (if q>0 then kas_desc f (kas_rev p (m-(q+1)) m) (m+1) 0 else kas_desc f p (m+1) 0)
   by_cases hq:q>0
   ·rw[if_pos hq];exact oE f _ _ _ (h.perm (Sy _ _ _ _) hn)
   ·rw[if_neg hq];exact oE f _ _ _ h
  | false=>exact ⟨h _,h _,fun d=>by
    cases d with
    |true=>exact h
    |false=>exact oE f _ _ _ h⟩⟩
theorem wC{p:Array Nat}(h:AllLt n p)(m r:Nat):InP n (λx=>AllLt n x.2) (kas_tail3 m r p):=by
 unfold kas_tail3;exact InP.bind (yD hn (h.perm (Sy _ _ _ _) hn) _ _) λa _=>h.perm (Sy _ _ _ _) hn
theorem oG{p:Array Nat}(h:AllLt n p)(m r:Nat):InP n (λx=>AllLt n x.2) (kas_descPart m r p):=by
 unfold kas_descPart;refine InP.bind (oE hn _ _ _ _ h) λa ha=>?_
 by_cases hq:a.2.2>0
 ·rw[if_pos hq];exact wC hn (ha.perm (Sy _ _ _ _) hn) _ _
 ·rw[if_neg hq];exact wC hn ha _ _
theorem D7{p:Array Nat}(h:AllLt n p)(r:Nat):InP n (λx=>AllLt n x.2) (kas_count r p):=by
 unfold kas_count;refine InP.bind (yD hn h _ _) λa _=>?_
 by_cases h1:(a == r)=true
 ·rw[if_pos h1];exact h
 ·rw[if_neg h1]
  by_cases h2:a>1
  ·rw[if_pos h2];exact⟨h _,h _,λb=>by
    cases b with
    |true=>exact h
    |false=>exact oG hn (h.perm (Sy _ _ _ _) hn) _ _⟩
  ·rw[if_neg h2];exact oG hn h _ _
theorem pQ{p:Array Nat}(h:AllLt n p)(k:Nat):∀f l r,InP n (λ_=>True) (kas_place p k f l r)
 |0,l,r=>trivial
 |f+1,l,r=>by
  show InP n _ (if l >= r then .ret l else .ask (p.getD k 0) (p.getD ((l+r)/2) 0) λc=>if c=true then kas_place p k f l ((l+r)/2) else kas_place p k f ((l+r)/2+1) r)
  by_cases hl:l >= r
  ·rw[if_pos hl];exact trivial
  ·rw[if_neg hl];exact⟨h _,h _,λb=>by
    cases b with
    |true=>exact pQ h k f _ _
    |false=>exact pQ h k f _ _⟩
theorem C0:∀f (p:Array Nat) k,AllLt n p->InP n (λ_=>True) (kas_bin f p k)
 |0,p,k,_=>trivial
 |f+1,p,k,h=>InP.bind (pQ hn h k _ _ _) λl _=>C0 f _ _ (h.perm (bubble_perm _ _ _) hn)
theorem sY:InP n (λ_=>True) (kas_sort n):=by
 have h0:AllLt n (Se (Qi n)):=λk=>by
  by_cases hk:k<n
  ·simp[Array.getD,hk]
  ·simp[Array.getD,hk,hn]
 unfold kas_sort;refine InP.bind (D7 hn h0 n) λr hr=>?_
 by_cases h:r.1<n
 ·rw[if_pos h];exact C0 hn _ _ _ hr
 ·rw[if_neg h];exact trivial
end
theorem sZ{α:Type}{n:Nat}{cmp:Nat->Nat->(Bool->Shared->Prop)->Shared->Prop}{lt:Nat->Nat->Bool}{s:Shared}(hc:∀i j C,i<n->j<n->C (lt i j) s->cmp i j C s){Q:α->Shared->Prop}{P:α->Prop}:
  ∀{t:KasT α},InP n P t->Q (evT lt t) s->t.kasWp cmp Q s
 |.ret _,_,h=>h
 |.ask i j k,⟨h1,h2,h3⟩,h=>hc i j _ h1 h2 (sZ hc (h3 _) h)
def ltX(n:Nat)(lt:Nat->Nat->Bool)(i j:Nat):Bool:=if i<n then(if j<n then lt i j else true) else false
theorem JV{lt:Nat->Nat->Bool}(tr:∀i j k,i<n->j<n->k<n->lt j i=false->lt k j=false->lt k i=false)(i j k:Nat)(h1:ltX n lt j i=false)(h2:ltX n lt k j=false):ltX n lt k i=false:=by
 unfold ltX at*
 by_cases hi:i<n <;> by_cases hj:j<n <;> by_cases hk:k<n <;> simp only[hi,hj,hk,if_true,if_false]at h1 h2⊢ <;> first|exact tr i j k hi hj hk h1 h2|exact absurd h2 (by decide)|exact absurd h1 (by decide)|rfl
theorem JW{lt:Nat->Nat->Bool}(as:∀i j,i<n->j<n->lt i j=true->lt j i=false)(i j:Nat)(h:ltX n lt i j=true):ltX n lt j i=false:=by
 unfold ltX at*
 by_cases hi:i<n <;> by_cases hj:j<n <;> simp only[hi,hj,if_true,if_false]at h⊢ <;> first|exact as i j hi hj h|exact absurd h (by decide)|rfl
theorem wD{α:Type}{n:Nat}{lt lt':Nat->Nat->Bool}(h:∀i j,i<n->j<n->lt i j=lt' i j){P:α->Prop}:∀{t:KasT α},InP n P t->evT lt t=evT lt' t
 |.ret _,_=>rfl
 |.ask i j k,⟨h1,h2,h3⟩=>by
  show evT lt (k (lt i j))=evT lt' (k (lt' i j))
  rw[h i j h1 h2];exact wD h (h3 _)
theorem Ae{lt:Nat->Nat->Bool}(tr:∀i j k,i<n->j<n->k<n->lt j i=false->lt k j=false->lt k i=false)(as:∀i j,i<n->j<n->lt i j=true->lt j i=false)(h1:1<=n):
  (evT lt (kas_sort n)).toList.Perm (Qi n)/\(evT lt (kas_sort n)).toList.Pairwise (λi j=>lt j i=false):=by
 have e:evT lt (kas_sort n)=evT (ltX n lt) (kas_sort n):=wD (λi j hi hj=>by unfold ltX;rw[if_pos hi,if_pos hj]) (sY (by omega));obtain⟨a,b⟩:=Hi (lt:=ltX n lt) (JV tr) (JW as) h1;rw[e];refine⟨a,b.imp_of_mem λ{i j} hi hj h=>?_⟩;have ay:i<n:=by simpa using a.mem_iff.mp hi
 have jk:j<n:=by simpa using a.mem_iff.mp hj
 unfold ltX at h;rw[if_pos jk,if_pos ay]at h;exact h
variable{κ:SortKind}
theorem rR{vs:List Value}{P:PySem.Fin->Shared->Prop}(lt:Nat->Nat->Bool)(tr:∀i j k,i<vs.length->j<vs.length->k<vs.length->lt j i=false->lt k j=false->lt k i=false)(as:∀i j,i<vs.length->j<vs.length->lt i j=true->lt j i=false)(ho:s.heap.get? a=some (seqObj "list" vs.toArray n))(fg:vs.length<64)(hk:∀s':Shared,(∀b o,b≠a->s.heap.get? b=some o->s'.heap.get? b=some o)->∀Q:SortKind->Shared->Prop,Q κ s'->wpAny (model prog w) A (keyKind' vs.toArray) Q E s')(ao:∀s':Shared,(∀b o,b≠a->s.heap.get? b=some o->s'.heap.get? b=some o)->∀i j,i<vs.length->j<vs.length->∀Q:Bool->Shared->Prop,Q (lt i j) s'->wpAny (model prog w) A (keyLt' κ (vs.getD i P7) (vs.getD j P7)) Q (λ_ _=>False) s')(h:∀p:List Nat,p.Perm (Qi vs.length)->p.Pairwise (λi j=>lt j i=false)->P (.done (.ret .none)) { s with heap:=sortedHeap s.heap a vs (p.map λi=>vs.getD i P7).toArray }):
  wpAny (model prog w) A (Builtin.«list.sort» ⟨[.ref a],[]⟩) P E s:=by
 rw[list_sort_plain];have ha:a<s.heap.objs.size:=PU ho;refine Pi (listItems_at ho rfl ?_);refine Pi (RX ho rfl ?_ (by rw[PJ,Qt];omega) (Qd _));obtain⟨e1,e8⟩:∃e1,(s.heap.update a (Qj λ_=>#[])).get? a=some (seqObj "list" #[] e1):=⟨_,SB ho (λ_=>#[])⟩;refine Pi (seqEpoch_at e8 rfl ?_);refine Pi (wpAny_newTuple ?_ (by show vs.length<=_;rw[Qt];omega));refine Pi (wpAny_newList ?_ (Qd _));refine QZ ?_;have k8:(((s.heap.update a (Qj λ_=>#[])).push (seqObj "tuple" vs.toArray 0)).push (seqObj "list" #[] 0)).get? a=some (seqObj "list" #[] e1):=by
  rw[R7 _ _ _ (by rw[size_push',SZ];exact P9 (Nat.lt_succ_of_lt ha)),R7 _ _ _ (by rw[SZ];exact P9 ha)];exact e8
 have kept:∀b o,b≠a->s.heap.get? b=some o->(((s.heap.update a (Qj λ_=>#[])).push (seqObj "tuple" vs.toArray 0)).push (seqObj "list" #[] 0)).get? b=some o:=λb o hb e=>
  PB _ (PB _ ((So s.heap (Qj λ_=>#[]) (QS hb)).trans e))
 show wpAny (model prog w) A _ P E { s with heap:=((s.heap.update a (Qj λ_=>#[])).push (seqObj "tuple" vs.toArray 0)).push (seqObj "list" #[] 0) }
 dsimp only;have hsz:vs.toArray.size=vs.length:=by simp
 by_cases h2:vs.toArray.size<2
 ·rw[if_pos h2,if_pos h2];refine Pi (Px ?_);rw[StateT.run_pure];refine Pi (Px ?_);dsimp only;refine Pi (seqEpoch_at k8 rfl ?_);refine Pi (RX k8 rfl ?_ (Qd _) (hsz2:=by rw[Array.size_map];show(pairsOf vs).size<=_;rw[pairsOf_size,Qt];omega));simp only[bne_self_eq_false,Qh,if_false];have e:(vs.toArray.zip vs.toArray).map (·.2)=((Qi vs.length).map λi=>vs.getD i P7).toArray:=by
   apply Array.toList_inj.mp;apply Ro;intro i
   by_cases hi:i<vs.length
   ·simp[hi]
   ·simp[hi]
  have key:=h (Qi vs.length) (List.Perm.refl _) (by
   rw[List.pairwise_iff_getElem];intro i j hi hj b9;simp only[R8]at hi hj;omega)
  rw[<-e]at key;exact Px key
 ·rw[if_neg h2,if_neg h2];have dg:2<=vs.length:=by omega
  refine Pi (hk _ kept _ ?_);refine Pi (RB (kat_run (ks:=vs) (vs:=vs) (E:=E) (Q:=λbx s'=>s'={ s with heap:=((s.heap.update a (Qj λ_=>#[])).push (seqObj "tuple" vs.toArray 0)).push (seqObj "list" #[] 0) }/\arrOf bx=(evT lt (kas_sort vs.length)).map (kas_item (vs.toArray.zip vs.toArray))/\failedOf bx=none)
   (G:=λp s'=>p=evT lt (kas_sort vs.length)/\s'={ s with heap:=((s.heap.update a (Qj λ_=>#[])).push (seqObj "tuple" vs.toArray 0)).push (seqObj "list" #[] 0) }) rfl dg fg (λp bx s' _ a2 a3 a4=>⟨a4.2,by rw[a2,a4.1],a3⟩)
   (sZ (n:=vs.length) (lt:=lt) (λi j C hi hj hC=>ao _ kept i j hi hj C hC) (sY (by omega)) ⟨rfl,rfl⟩)) ?_ λ_ _ e=>e)
  rintro⟨⟨⟩,bx⟩ s' ⟨rfl,har,hf⟩;dsimp only;have jh:=kat_snds (ks:=vs) (vs:=vs) rfl har;obtain⟨c1,c2⟩:=Ae tr as (by omega);refine Pi (seqEpoch_at k8 rfl ?_);refine Pi (RX k8 rfl ?_ (Qd _) (hsz2:=by
   have:(Array.map (λx=>x.snd) (arrOf bx)).size<=PP:=by
    rw[jh,PJ,PC,c1.length_eq,R8,Qt];omega
   first|exact this|exact Nat.le_succ_of_le this))
  rw[hf];simp only[bne_self_eq_false,Qh,if_false];have key:=h _ c1 c2;rw[<-jh]at key;exact Px key
def kD:Key->D
 |.inl i=>.int i
 |.inr x=>.str x
def tD(ks:List Key):D:=.tup (ks.map kD)
theorem Hj{k:Key}(h:Rep K H (kD k) v):v=kV k:=by
 cases k <;> exact h
theorem Hk(k:Key):Rep K H (kD k) (kV k):=by
 cases k <;> rfl
theorem wF{K:Py}{H:Hp}:∀{ks:List Key}{vs:List V},cF K H (ks.map kD) vs->vs=ks.map kV
 |[],[],_=>rfl
 |k::ks,v::vs,⟨h,r⟩=>by rw[Hj h,wF (ks:=ks) r];rfl
 |[],_::_,h=>h.elim
 |_::_,[],h=>h.elim
theorem wG{K:Py}{H:Hp}:∀(ks:List Key),cF K H (ks.map kD) (ks.map kV)
 |[]=>trivial
 |k::ks=>⟨Hk k,wG ks⟩
abbrev eX(h:Heap):List Value->List (List Key)->Prop:=Paired λv ks=>∃a us,v=.ref a/\IsTup h a us.toArray/\aI (ks.map kV) us
theorem eX.kept{h:Heap}(k:∀b o,h.get? b=some o->h'.get? b=some o):∀{vs:List Value}{kss:List (List Key)},eX h vs kss->eX h' vs kss
 |_,_,.nil=>.nil
 |_,_,.cons ⟨a,us,e,⟨o,ho,r⟩,q⟩ t=>.cons ⟨a,us,e,⟨o,k a o ho,r⟩,q⟩ (eX.kept k t)
theorem eX.get{h:Heap}:∀{vs:List Value}{kss:List (List Key)}{i:Nat},eX h vs kss->i<vs.length->∃a us,vs.getD i P7=.ref a/\IsTup h a us.toArray/\aI ((kss.getD i []).map kV) us
 |_,_,i,.nil,hi=>by simp at hi
 |_,_,0,.cons ⟨a,us,e,p,q⟩ t,hi=>⟨a,us,by simpa using e,p,by simpa using q⟩
 |_,_,i+1,.cons _ t,hi=>by
  obtain⟨a,us,e,p,q⟩:=eX.get (i:=i) t (by simpa using hi)
  exact⟨a,us,by simpa using e,p,by simpa using q⟩
theorem mG{X:Cx}{pins:List (Addr×Obj)}{σ:St}{H:Hp}{s:Shared}(I:Inv X pins σ H s):∀{kss:List (List Key)}{vs:List V}{us:List Value},cF X.K H (kss.map tD) vs->aI vs us->eX s.heap us kss
 |[],[],_,_,.nil=>.nil
 |ks::kss,v::vs,_,⟨⟨a,ws,e,q,r⟩,rs⟩,.cons rv jy=>by
  subst e;cases rv
  obtain⟨its,r2,p,_⟩:=I.tuple q;rw[wF r]at r2;exact .cons ⟨a,its,rfl,p,r2⟩ (mG I rs jy)
 |[],_::_,_,h,_=>h.elim
 |_::_,[],_,h,_=>h.elim
variable{ls:List Key}{us ws:List Value}{kss:List (List Key)}{sh:List Bool}
section
theorem kA{b:Bool}{Q:Bool->Shared->Prop}:∀(ks ls:List Key)(us ws:List Value)(i:Nat),aI (ks.map kV) us->aI (ls.map kV) ws->shape ks=shape ls->Q (aZ ks ls) s->KatLex prog w A b false Q (us.zip ws) i s
 |[],[],_,_,i,.nil,.nil,_,h=>h
 |[],_::_,_,_,_,_,_,e,_=>by cases e
 |_::_,[],_,_,_,_,_,e,_=>by cases e
 |x::ks,y::ls,_,_,i,.cons (b:=u) r1 t1,.cons (b:=v) r2 t2,e,h=>by
  have s1:cP x=cP y:=by simpa using congrArg List.head? e
  have s2:shape ks=shape ls:=by simpa using congrArg List.tail e
  rw[List.zip_cons_cons];unfold aZ at h;cases x with
  |inl a=>
   cases y with
   |inr c=>cases s1
   |inl c=>
    obtain⟨t,rfl⟩:=r1;obtain⟨t',rfl⟩:=r2;refine kat_cons (EqAt.int_int a t c t' prog w _ _ ?_)
    by_cases ac:a=c
    ·subst ac;rw[if_pos rfl]at h;rw[beq_self_eq_true];exact kat_yes (kA ks ls _ _ (i+1) t1 t2 s2 h)
    ·rw[if_neg (λz=>ac (Sum.inl.inj z))]at h;rw[beq_eq_false_iff_ne.mpr ac];refine kat_no ?_;cases hb:(b&&i == 0) with
     |true=>exact oneLt_int h
     |false=>exact kat_one _ _ (lt_int (show PySem.W.BoolBack Q (.bool (decide (a<c))) s from h))
  |inr a=>
   cases y with
   |inl c=>cases s1
   |inr c=>
    obtain⟨t,rfl⟩:=r1;obtain⟨t',rfl⟩:=r2;refine kat_cons (EqAt.str_str a t c t' prog w _ _ ?_)
    by_cases ac:a=c
    ·subst ac;rw[if_pos rfl]at h;rw[beq_self_eq_true];exact kat_yes (kA ks ls _ _ (i+1) t1 t2 s2 h)
    ·rw[if_neg (λz=>ac (Sum.inr.inj z))]at h;rw[beq_eq_false_iff_ne.mpr ac];refine kat_no ?_;cases hb:(b&&i == 0) with
     |true=>exact oneLt_str h
     |false=>exact kat_one _ _ (lt_str (show PySem.W.BoolBack Q (.bool (decide (a.cps.toList<c.cps.toList))) s from h))
theorem tB{x y:Addr}{ks:List Key}{Q:Bool->Shared->Prop}(hx:IsTup s.heap x us.toArray)(hy:IsTup s.heap y ws.toArray)(r1:aI (ks.map kV) us)(r2:aI (ls.map kV) ws)(e:shape ks=shape ls)(h:Q (aZ ks ls) s):
  wpAny (model prog w) A (keyLt' (tuples' b) (.ref x) (.ref y)) Q E s:=by
 obtain⟨ox,yk,_,n,dx⟩:=hx;obtain⟨oy,yz,_,m,dy⟩:=hy;refine kat_lt yk dx yz dy ?_;have l1:=r1.length;have l2:=r2.length;have l3:ks.length=ls.length:=by simpa using congrArg Te e
 rw[PC]at l1 l2;have hf:decide (us.toArray.size<ws.toArray.size)=false:=decide_eq_false (by simp;omega);rw[hf];exact kA ks ls us ws 0 r1 r2 e h
set_option tactic.hygienic true in
theorem tG{h:Heap}{b:Bool}{sh:List Bool}:∀{vs:List Value}{kss:List (List Key)},eX h vs kss->(∀ks∈kss,shape ks=b::sh)->∃fs:List Value,fs.length=vs.length/\KatTups h vs fs/\∀f∈fs,typeOf f=pure (.type (if b then "int" else "str"))
 |_,_,.nil,_=>⟨[],rfl,KatTups.nil,λ_ hf=>nomatch hf⟩
 |_,_,.cons (b:=ks) ⟨a,us,e,⟨o,ho,hc,n,hd⟩,r⟩ t,hs=>by
  obtain⟨fs,hl,ht,hT⟩:=tG t λx hx=>hs x (PK _ hx);have h0:=hs ks PN;subst e;cases ks with
  |nil=>cases h0
  |cons k ks=>
   cases r with
   |cons rk rks=>
    rename_i u us';have hk:cP k=b:=by simpa using congrArg List.head? h0
    refine⟨u::fs,by simp[hl],KatTups.cons ho hc hd (by simp) ht,λf hf=>?_⟩;rcases P5.mp hf with rfl|hf
    ·cases k with
     |inl i=>obtain⟨tk,rfl⟩:=rk;subst hk;rfl
     |inr x=>obtain⟨tk,rfl⟩:=rk;subst hk;rfl
    ·exact hT f hf
theorem wH{vs:List Value}{Q:SortKind->Shared->Prop}(t:eX s.heap vs kss)(hs:∀ks∈kss,shape ks=b::sh)(h0:0<vs.length)(h:Q (tuples' true) s):wpAny (model prog w) A (keyKind' vs.toArray) Q E s:=by
 obtain⟨fs,hl,ht,hT⟩:=tG t hs;refine kat_kind (T:=.type (if b then "int" else "str")) ht (by omega) (λv hv=>by rw[hT v hv];exact Looks.now) (by cases b <;> rfl) ?_;have:((Td (if b then "int" else "str")) != Td "tuple")=true:=by cases b <;> rfl
 rw[this];exact h
theorem pR{P:PySem.Fin->Shared->Prop}(ho:s.heap.get? a=some (seqObj "list" ([]:List Value).toArray n))(h:P (.done (.ret .none)) { s with heap:=sortedHeap s.heap a [] #[] }):wpAny (model prog w) A (Builtin.«list.sort» ⟨[.ref a],[]⟩) P E s:=by
 rw[list_sort_plain];refine Pi (listItems_at ho rfl ?_);refine Pi (RX ho rfl ?_ (Qd _) (Qd _));have ha:a<s.heap.objs.size:=PU ho;obtain⟨e1,e8⟩:∃e1,(s.heap.update a (Qj λ_=>#[])).get? a=some (seqObj "list" #[] e1):=⟨_,SB ho (λ_=>#[])⟩;refine Pi (seqEpoch_at e8 rfl ?_);refine Pi (wpAny_newTuple ?_ (Qd _));refine Pi (wpAny_newList ?_ (Qd _));refine QZ ?_;have k8:(((s.heap.update a (Qj λ_=>#[])).push (seqObj "tuple" ([]:List Value).toArray 0)).push (seqObj "list" #[] 0)).get? a=some (seqObj "list" #[] e1):=by
  rw[R7 _ _ _ (by rw[size_push',SZ];exact P9 (Nat.lt_succ_of_lt ha)),R7 _ _ _ (by rw[SZ];exact P9 ha)];exact e8
 show wpAny (model prog w) A _ P E { s with heap:=((s.heap.update a (Qj λ_=>#[])).push (seqObj "tuple" ([]:List Value).toArray 0)).push (seqObj "list" #[] 0) }
 dsimp only;rw[if_pos (by decide),if_pos (by decide)];refine Pi (Px ?_);rw[StateT.run_pure];refine Pi (Px ?_);dsimp only;refine Pi (seqEpoch_at k8 rfl ?_);have e0:(Array.map (λx=>x.snd) (arrOf (SortSt.mk' general' ((#[]:Array Value).zip (#[]:Array Value)) #[] 7 none)))=(#[]:Array Value):=by
  show Array.map (λx=>x.snd) ((#[]:Array Value).zip (#[]:Array Value))=#[]
  simp
 refine Pi (RX k8 rfl ?_ (Qd _) (hsz2:=by
  have e1:(Array.map (λx=>x.snd) (arrOf (SortSt.mk' general' ((#[]:Array Value).zip (#[]:Array Value)) #[] 7 none))).size=0:=by rw[e0];rfl
  first|exact Qb (Nat.le_of_eq e1) (Qd _)|(show _<=_;omega)))
 simp only[bne_self_eq_false,Qh,if_false];refine Px ?_
 show P (.done (.ret .none)) { s with heap:=(((s.heap.update a (Qj λx=>#[])).push (seqObj "tuple" ([]:List Value).toArray 0)).push (seqObj "list" #[] 0)).update a (Qj λx=>Array.map (λx=>x.snd) (arrOf (SortSt.mk' general' ((#[]:Array Value).zip (#[]:Array Value)) #[] 7 none))) }
 rw[e0];exact h
theorem D8{v:Value}(vn:List Value->Shared->Prop)(hc:wpAny (model prog w) A.in1 (collect v) vn E s)(h:∀vs s1,vn vs s1->vs.length<64/\∃lt:Nat->Nat->Bool,(∀i j k,i<vs.length->j<vs.length->k<vs.length->lt j i=false->lt k j=false->lt k i=false)/\(∀i j,i<vs.length->j<vs.length->lt i j=true->lt j i=false)/\
   (∀(A':Around)(s':Shared),(∀b o,s1.heap.get? b=some o->s'.heap.get? b=some o)->0<vs.length->∀(Q:SortKind->Shared->Prop) E',Q κ s'->wpAny (model prog w) A' (keyKind' vs.toArray) Q E' s')/\
   (∀(s':Shared),(∀b o,s1.heap.get? b=some o->s'.heap.get? b=some o)->∀i j,i<vs.length->j<vs.length->∀Q:Bool->Shared->Prop,Q (lt i j) s'->wpAny (model prog w) A.in1.in1 (keyLt' κ (vs.getD i P7) (vs.getD j P7)) Q (λ_ _=>False) s')/\
   ∀(p:List Nat)(h':Heap)(e:Nat),p.Perm (Qi vs.length)->p.Pairwise (λi j=>lt j i=false)->(∀b o,s1.heap.get? b=some o->h'.get? b=some o)->h'.get? s1.heap.objs.size=some (seqObj "list" (p.map λi=>vs.getD i P7).toArray e)->Q (.ref s1.heap.objs.size) { s1 with heap:=h' }):
  wpAny (model prog w) A (call (.builtin "sorted") [v]) Q E s:=by
 refine Calls.call_function_entry kind_sorted plain_sorted entry_sorted (args_sorted1 _) ?_;unfold Builtin.«sorted»;refine Pi (m:=checkCount "sorted" 1 1 _) (Px ?_);refine Pi (RB hc (λvs s1 c=>?_) λ_ _ x=>x);obtain⟨fg,lt,tr,as,hk,ao,fin⟩:=h vs s1 c;refine Pi (wpAny_newList ?_ (by rw[Qt];omega));have iy:(s1.heap.push (seqObj "list" vs.toArray 0)).get? s1.heap.objs.size=some (seqObj "list" vs.toArray 0):=PR _ rfl;have keep:∀b o,s1.heap.get? b=some o->b≠s1.heap.objs.size/\(s1.heap.push (seqObj "list" vs.toArray 0)).get? b=some o:=λb o q=>⟨P9 (PU q),PB _ q⟩
 show wpAny _ _ _ _ _ { s1 with heap:=s1.heap.push (seqObj "list" vs.toArray 0) }
 refine Pi (QZ (Qy slot_list_sort ⟨_,iy,rfl⟩ entry_list_sort ?_ (args_list_sort _)));have tree:wpAny (model prog w) A.in1.in1 (Builtin.«list.sort» ⟨[.ref s1.heap.objs.size],[]⟩) (λr s'=>∃p:List Nat,r=.done (.ret .none)/\p.Perm (Qi vs.length)/\p.Pairwise (λi j=>lt j i=false)/\s'={ s1 with heap:=sortedHeap (s1.heap.push (seqObj "list" vs.toArray 0)) s1.heap.objs.size vs (p.map λi=>vs.getD i P7).toArray }) E { s1 with heap:=s1.heap.push (seqObj "list" vs.toArray 0) }:=by
  by_cases h0:0<vs.length
  ·exact rR (κ:=κ) lt tr as iy fg (λs' kp Q hq=>hk _ s' (λb o e=>kp b o (keep b o e).1 (keep b o e).2) h0 Q _ hq) (λs' kp i j hi hj Q hq=>ao s' (λb o e=>kp b o (keep b o e).1 (keep b o e).2) i j hi hj Q hq) λp a1 a2=>⟨p,rfl,a1,a2,rfl⟩
  ·have e0:vs=[]:=List.length_eq_zero_iff.mp (by omega);subst e0;exact pR iy ⟨[],rfl,List.Perm.refl _,List.Pairwise.nil,rfl⟩
 refine RB tree (λr s' hr=>?_) λ_ _ x=>x;obtain⟨p,rfl,a1,a2,rfl⟩:=hr;refine⟨_,rfl,Px ⟨_,rfl,?_⟩⟩;obtain⟨e,he⟩:=sortedHeap_at (h:=s1.heap.push (seqObj "list" vs.toArray 0)) (out:=(p.map λi=>vs.getD i P7).toArray) iy;exact fin p _ e a1 a2 (λb o q=>(sortedHeap_old (keep b o q).1 (by rw[size_push'];exact Nat.lt_succ_of_lt (PU q))).trans (keep b o q).2) he
end
def pS(H:Hp)(ps:List (Addr×List V)):Hp:=λb=>match ps.lookup b with
 |some xs=>some (.tup xs)
 |none=>H b
theorem rG{κ:Type}{x:Addr}{k:κ}:∀{l:List (Addr×κ)},l.lookup x=some k->(x,k)∈l
 |[],h=>by simp at h
 |(n,v)::r,h=>by
  by_cases hx:x=n
  ·subst hx;simp only[P8,beq_self_eq_true]at h;cases h
   exact PN
  ·have:(x == n)=false:=by simpa using hx
   simp only[P8,this]at h;exact PK _ (rG h)
theorem oH{κ:Type}{x:Addr}:∀{l:List (Addr×κ)},(∀p∈l,p.1≠x)->l.lookup x=none
 |[],_=>rfl
 |(n,v)::r,h=>by
  have hx:(x == n)=false:=by
   have:=h (n,v) PN;simpa using λe:x=n=>this e.symm
  simp only[P8,hx];exact oH λp hp=>h p (PK _ hp)
theorem Af{ps:List (Addr×List V)}{b:Addr}(h:∀p∈ps,p.1≠b):pS H ps b=H b:=by
 unfold pS;rw[oH h]
theorem Ag{H:Hp}:∀{ps:List (Addr×List V)}{j:Nat}{a:Addr}{xs:List V},(ps.map (·.1)).Nodup->ps[j]?=some (a,xs)->pS H ps a=some (.tup xs)
 |[],_,_,_,_,h=>by simp at h
 |(n,v)::r,0,a,xs,_,h=>by
  simp at h;obtain⟨rfl,rfl⟩:=h;unfold pS;simp[P8]
 |(n,v)::r,j+1,a,xs,nd,h=>by
  have ip:(n::r.map (·.1)).Nodup:=nd;obtain⟨n1,n2⟩:=Rv.mp ip;have h':r[j]?=some (a,xs):=by simpa using h
  have ne:(a == n)=false:=by
   have:a∈r.map (·.1):=Qc.mpr ⟨_,Qp h',rfl⟩;simpa using λe:a=n=>n1 (e▸this)
  have ih:=Ag (H:=H) n2 h';unfold pS at ih⊢;simp only[P8,ne];exact ih
theorem Inv.laidT{ps:List (Addr×List V)}(I:Inv X pins σ H s)(k:∀b u,s.heap.get? b=some u->h'.get? b=some u)(hp:∀p∈ps,s.heap.objs.size<=p.1)(new:∀p∈ps,p.2.length<=PP/\∃its:List Value,aI p.2 its/\pL h' p.1 its.toArray):
  Inv X pins σ (pS H ps) { s with heap:=h',toks:=t' }:=by
 have nb:∀b,b<s.heap.objs.size->∀p∈ps,p.1≠b:=λb hb p i6 e=>Q8 _ (P6 hb (e▸hp p i6));have old:∀b,b<s.heap.objs.size->pS H ps b=H b:=λb hb=>Af (nb b hb);refine I.un ⟨λb u q _ _ _=>k b u q,λb u q _ _ _=>⟨u.slots,k b u q⟩,λb u q n _=>(old b (PU q)).trans n,λb u q _=>⟨u,k b u q⟩,λb xs q=>(old b (I.hok.lt q)).trans q,λb u xs q=>(old b (I.hok.lt q)).trans q,λb ps' q=>⟨#[],by rw[old b (I.hok.lt q),q];simp⟩⟩ ?_;intro b u e;unfold pS at e;cases q:ps.lookup b with
 |some xs=>
  rw[q]at e;cases e
  obtain⟨z,its,r,p⟩:=new _ (rG q);exact⟨z,its,r,p⟩
 |none=>
  rw[q]at e;have hb:=I.hok.lt e;exact(I.hok b u e).stay (λc v _ q=>k c v q) (λc q=>(old c (I.hok.lt q)).trans q) λc xs q=>(old c (I.hok.lt q)).trans q
theorem D9(I:Inv X pins σ H s){ps:List (Addr×List V)}(hp:∀p∈ps,s.heap.objs.size<=p.1):A7 H (pS H ps):=λb o e=>by
 have nb:∀p∈ps,p.1≠b:=λp i6 z=>Q8 _ (P6 (I.hok.lt e) (z▸hp p i6));rw[Af nb];exact e
def JX(v d:Addr):HO:=.ext λh=>h.IsItemsView v d
def yE(K:Py)(kss:List (List Key))(Q:VK)(H1:Hp):Prop:=∀(l:Addr)(gq:List (List Key))(fb:List V),H1 l=none->gq.Perm kss->gq.Pairwise (λa b=>aZ b a=false)->cF K H1 (gq.map tD) fb->Q (.ref l) (upd H1 l (.lst fb))
def JY(K:Py):List V->Hp->VK->Prop:=λxs H Q=>∃(p:Addr)(kss:List (List Key))(sh:List Bool)(b:Bool),xs=[.ref p]/\kss.length<64/\(∀ks∈kss,shape ks=b::sh)/\
 ((∃vs,SqL K H p vs/\cF K H (kss.map tD) vs/\yE K kss Q H)\/
  (∃d kvs,H p=some (JX p d)/\H d=some (.dK kvs)/\kvs.map (λkv=>[kV kv.1,kv.2])=kss.map (λks=>ks.map kV)/\∀H1,A7 H H1->yE K kss Q H1))
theorem wI{α:Type}{xs:List α}{d:α}{p:List Nat}(h:p.Perm (Qi xs.length)):(p.map λi=>xs.getD i d).Perm xs:=by
 have e:(Qi xs.length).map (λi=>xs.getD i d)=xs:=by
  apply Ro;intro i
  by_cases hi:i<xs.length
  ·simp[hi]
  ·simp[hi]
 have:=h.map λi=>xs.getD i d
 rwa[e]at this
theorem wJ{K:Py}{H:Hp}{ds:List D}{vs:List V}(r:cF K H ds vs):∀{p:List Nat},(∀i∈p,i<ds.length)->cF K H (p.map λi=>ds.getD i .non) (p.map λi=>vs.getD i .non)
 |[],_=>trivial
 |i::p,h=>by
  have hi:=h i PN;have g:ds[i]?=some (ds.getD i .non):=by simp[hi]
  obtain⟨v,hv,hr⟩:=r.at g;have e:vs.getD i .non=v:=by simp[Rm,hv]
  refine⟨?_,wJ r λj hj=>h j (PK _ hj)⟩
  show Rep K H (ds.getD i .non) (vs.getD i .non)
  rw[e];exact hr
theorem pT{vs:List V}{us:List Value}(r:aI vs us):∀{p:List Nat},(∀i∈p,i<vs.length)->aI (p.map λi=>vs.getD i .non) (p.map λi=>us.getD i P7)
 |[],_=>.nil
 |i::p,h=>by
  have hi:=h i PN;have g:vs[i]?=some (vs.getD i .non):=by simp[hi]
  obtain⟨u,hu,hr⟩:=r.get g;have e:us.getD i P7=u:=by simp[Rm,hu]
  refine .cons ?_ (pT r λj hj=>h j (PK _ hj))
  show RelV (vs.getD i .non) (us.getD i P7)
  rw[e];exact hr
theorem yF(hc:X.calm=true)(K:Py)(hK:X.K=K):bS X (.builtin "sorted") (JY K):=by
 subst hK;intro pins s σ H xs us Q I r h;obtain⟨p,kss,sh,b,rfl,fg,hsh,h⟩:=h;obtain⟨u,rfl,ru⟩:=vals1 r;cases ru
 have bq:∀i,i<kss.length->shape (kss.getD i [])=b::sh:=λi hi=>by
  have:kss.getD i []=kss[i]:=by simp[hi]
  rw[this];exact hsh _ (List.getElem_mem hi)
 refine D8 (κ:=tuples' true) (λits s1=>∃H1 vs,Inv X pins σ H1 s1/\aI vs its/\cF X.K H1 (kss.map tD) vs/\yE X.K kss Q H1) ?col ?fin
 case fin=>
  rintro its s1 ⟨H1,vs,I1,rv,rr,fin⟩;have l1:=rv.length;have l2:kss.length=vs.length:=by simpa using rr.length
  have hlen:its.length=kss.length:=by omega
  have tk:=mG I1 rr rv;refine⟨by omega,λi j=>aZ (kss.getD i []) (kss.getD j []),λi j k hi hj hk h1 h2=>?_,λi j _ _ h=>oB h,λA' s' kp h0 Q' E' hq=>?_,λs' kp i j hi hj Q' hq=>?_,λq h' e a1 a2 kp he=>?_⟩
  ·exact lG ((bq i (by omega)).trans (bq j (by omega)).symm) ((bq j (by omega)).trans (bq k (by omega)).symm) h1 h2
  ·exact wH (tk.kept kp) hsh h0 hq
  ·obtain⟨a,ua,e1,p1,r1⟩:=(tk.kept kp).get hi;obtain⟨c,uc,e2,p2,r2⟩:=(tk.kept kp).get hj;rw[e1,e2];exact tB p1 p2 r1 r2 ((bq i (by omega)).trans (bq j (by omega)).symm) hq
  ·have cf:∀i∈q,i<kss.length:=λi hi=>by
    have:=a1.mem_iff.mp hi;rw[List.mem_range]at this;omega
   rw[hlen]at a1;have wj:=wJ rr (p:=q) (λi hi=>by rw[PC];exact cf i hi);have em:(q.map λi=>(kss.map tD).getD i .non)=(q.map λi=>kss.getD i []).map tD:=by
    rw[Qw];apply Rp;intro i hi;have:=cf i hi;simp[this]
   rw[em]at wj;refine⟨.ref s1.heap.objs.size,_,I1.laid (t':=s1.toks) (o:=.lst (q.map λi=>vs.getD i .non)) kp (PD _) ?_,rfl,fin _ _ _ I1.fresh (wI a1) ?_ wj⟩
   ·refine⟨?_,q.map (λi=>its.getD i P7),e,pT rv (λi hi=>by have:=cf i hi;omega),he⟩;rw[PC,a1.length_eq,R8,Qt];omega
   ·rw[Rq];exact a2
 case col=>
  rcases h with⟨vs,hq,rr,fin⟩|⟨d,kvs,hv,hd,hk,fin⟩
  ·obtain⟨its,rv,pl,hz⟩:=I.list hq;refine collect_list pl.isList ?_ (by have:=rv.length;omega);exact⟨H,vs,I.kept (t':=s.toks) λb o e=>by
    have ao:b<s.heap.objs.size:=PU e
    first
     |(rw[Heap.get?_update_ne _ _ _ _ (P9 ao),R7 _ _ _ (P9 ao)];exact e)
     |exact PB _ e,rv,rr,fin⟩
  ·obtain⟨ig,_,_⟩:=I.hok p _ hv;obtain⟨z,y,vs,jv,D⟩:=I.hok d _ hd;obtain⟨ep,D'⟩:=D.dictAt;have lkv:kvs.length=vs.length:=KV.length jv;have lks:kvs.length=kss.length:=by simpa using congrArg Te hk
   refine kdx_collect (A:=X.A.in1) (knd:=aQ X.prog X.w) (kvs:=vs) (ep:=ep) (I.ok.hd hc) ig D' (by rw[Qt];omega) λh' tk as kp hl hG=>?_
   -- the new tuples
   let ps:List (Addr×List V):=as.zip (kss.map λks=>ks.map kV);have tm:ps.map (·.1)=as:=by
    show(as.zip _).map Prod.fst=as
    rw[List.map_fst_zip];rw[PC];omega
   have bg:∀q∈ps,s.heap.objs.size<=q.1:=λq hq=>by
    have:q.1∈as:=by rw[<-tm];exact Qc.mpr ⟨q,hq,rfl⟩
    exact Rt (hG.above _ this)
   have nd:(ps.map (·.1)).Nodup:=by
    rw[tm];exact hG.rise.imp λh=>P9 h
   have each:∀(j:Nat)(a:Addr),as[j]?=some a->∃ks us,kss[j]?=some ks/\ps[j]?=some (a,ks.map kV)/\aI (ks.map kV) us/\pL h' a us.toArray/\ks.length<=2:=λj a ha=>by
    obtain⟨key,kk,x,e1,e2,e3⟩:=hG.pairs j a ha;have hj:j<kss.length:=by
     have:=(Pv.mp ha).1;omega
    have Pd:j<kvs.length:=by omega
    have g1:kss[j]?=some kss[j]:=by simp[hj]
    have g2:kvs[j]?=some kvs[j]:=by simp[Pd]
    have g3:(kss[j]).map kV=[kV kvs[j].1,kvs[j].2]:=by
     have:=congrArg (λl=>l[j]?) hk;simp[g1,g2]at this;exact this.symm
    -- the raw pair
    have rr:∀{kvs:List (Key×V)}{vs:List (Key×Value)}{j:Nat}{kv:Key×V}{w':Key×Value},KV kvs vs->kvs[j]?=some kv->vs[j]?=some w'->kv.1=w'.1/\RelV kv.2 w'.2:=by
     intro kvs vs j kv w' h
     induction h generalizing j with
     |nil=>intro h1;simp at h1
     |cons r t ih=>
      intro h1 h2;cases j with
      |zero=>simp at h1 h2;subst h1 h2;exact r
      |succ j=>exact ih (by simpa using h1) (by simpa using h2)
    obtain⟨q1,q2⟩:=rr jv g2 e1;refine⟨kss[j],[key,x],g1,?_,?_,⟨_,e3,rfl,⟨0,rfl⟩,rfl⟩,?_⟩
    ·show(as.zip _)[j]?=_
     rw[List.getElem?_zip_eq_some];exact⟨ha,by simp[g1]⟩
    ·rw[g3];refine .cons ?_ (.cons q2 .nil);rw[q1];have Pb:qV kk key=true:=e2;rcases aY Pb with⟨i,t,rfl,rfl⟩|⟨y,t,rfl,rfl⟩
     ·exact⟨t,rfl⟩
     ·exact⟨t,rfl⟩
    ·have:=congrArg Te g3;simp at this;omega
   have I1:Inv X pins σ (pS H ps) { s with heap:=h',toks:=tk }:=I.laidT kp bg λq hq=>by
    obtain⟨j,hj⟩:=Sz.mp hq;have ha:as[j]?=some q.1:=by
     have:=congrArg (λl=>l[j]?) tm;simp[hj]at this;exact this.symm
    obtain⟨ks,us,_,e2,e3,e4,e5⟩:=each j q.1 ha;rw[hj]at e2;have eq2:q.2=ks.map kV:=by
     have:=P4 e2;rw[this]
    refine⟨?_,us,by rw[eq2];exact e3,e4⟩;rw[eq2,PC,Qt];omega
   refine⟨pS H ps,as.map V.ref,I1,?_,?_,fin _ (D9 I bg)⟩
   ·have:∀l:List Addr,aI (l.map V.ref) (l.map Qk):=λl=>by
     induction l with
     |nil=>exact .nil
     |cons a l ih=>exact .cons rfl ih
    exact this as
   ·have gen:∀(l:List Addr)(ls:List (List Key)),l.length=ls.length->(∀(j:Nat) a ks,l[j]?=some a->ls[j]?=some ks->pS H ps a=some (.tup (ks.map kV)))->cF X.K (pS H ps) (ls.map tD) (l.map V.ref):=by
     intro l
     induction l with
     |nil=>
      intro ls hl _;cases ls with
      |nil=>exact trivial
      |cons _ _=>cases hl
     |cons a l ih=>
      intro ls hl hh;cases ls with
      |nil=>cases hl
      |cons ks ls=>
       refine⟨⟨a,_,rfl,SqT.of (hh 0 a ks rfl rfl),wG ks⟩,ih ls (by simpa using hl) λj a' cp h1 h2=>hh (j+1) a' cp (by simpa using h1) (by simpa using h2)⟩
    refine gen as kss (by omega) λj a ks h1 h2=>?_;obtain⟨cp,us,e1,e2,_⟩:=each j a h1;rw[h2]at e1;cases e1
    exact Ag nd e2
open PySem PySem.Spec PyProof.Rows
variable{key:Value}
section
variable{K:Type}[DecidableEq K]
theorem rS{knd:HeapKind prog w K}{d:Addr}{xs:List (K×Addr×Value)}{k:K}{x:Value}(hu:knd.room A)(ai:knd.is s.heap k a)(hm:s.heap.DictOfH knd d xs)(hz:xs.length<=PP)(there:∀p,atKey xs k=some p->Q p.2 { s with toks:=s.toks+knd.draws k })(new:atKey xs k=none->∀h',h'.DictOfH knd d (storedH xs k a x)->Ra d s.heap h'->Q x { s with heap:=h',toks:=s.toks+knd.draws k }):wpAny (model prog w) A (SU d (.ref a) x) Q E s:=by
 obtain⟨o,es,ep,ho,hc,hd,he,vh,hn⟩:=hm;unfold SU;refine QZ (Pi (knd.pyHash hu ai ?_));refine Pi (wpAny_dictFind_heap (s:={ s with toks:=s.toks+knd.draws k }) hu ai ho hd he vh hn (λl7=>?_) (λj p hj=>?_))
 ·have lq:=atKey_none_of_get l7;have fresh:=not_mem_keys_of_get l7;refine Pi (S6 (Pi (wpAny_updateDictKeys (hz:=by have e:=size_of_entries he;omega) (s:={ s with toks:=s.toks+knd.draws k }) ho hd (Px (new lq _ ⟨_,_,ep+1,QX _ ho (Obj.isFreed_of_dict (SM hd _)),hc.mapDictKeys _,SM hd _,?_,?_,?_⟩ (Qg ..))))))
  ·rw[storedH_new lq,Array.toList_push,he,Qq];rfl
  ·rw[storedH_new lq];intro z hz';rcases Ql.mp hz' with q|q
   ·exact knd.keeps (vh z q) ho hd (Qg ..)
   ·rw[Qe.mp q];exact knd.keeps ai ho hd (Qg ..)
  ·rw[storedH_new lq,Qq,QM];refine⟨hn,by simp,λu rf v hv e=>fresh ?_⟩;have:v=k:=by simpa using hv
   rw[<-this,<-e];exact rf
 ·have lq:atKey xs k=some p:=atKey_of_get hn hj;refine Pi (QN (s:={ s with toks:=s.toks+knd.draws k }) ho hd ?_);rw[entry_at he j,hj];exact Pi (S6 (Px (there p lq)))
theorem pU{knd:KeyKind prog w K}{d:Addr}{kvs:List (K×Value)}{k:K}{x:Value}(ai:knd.is k key=true)(hm:s.heap.DictOf knd d kvs)(hz:kvs.length<=PP)(there:∀v,valueAt kvs k=some v->Q v { s with toks:=s.toks+1 })(new:valueAt kvs k=none->∀h',h'.DictOf knd d (stored kvs k x)->Ra d s.heap h'->Q x { s with heap:=h',toks:=s.toks+1 }):wpAny (model prog w) A (SU d key x) Q E s:=by
 have n5:=hm.mapOf;obtain⟨o,es,ep,ho,hc,hd,hk,hp,hn⟩:=id hm;have d8:es.size<=PP:=by
  have e1:=hp.length;rw[Sg]at e1;omega
 unfold SU;refine QZ (Pi (knd.pyHash ai (Pi (wpAny_dictFind_of (s:={ s with toks:=s.toks+1 }) ai ho hd hk ?_))));have qp:(es.findIdx? λe=>knd.is k e.key)=kvs.findIdx? λkv=>decide (kv.1=k):=by rw[<-hp.findIdx k];obtain⟨l⟩:=es;simp
 cases hi:es.findIdx? λe=>knd.is k e.key with
 |some i=>
  refine Pi (QN (s:={ s with toks:=s.toks+1 }) ho hd ?_);obtain⟨o',gj,gg,dr,_,cg,_,hf⟩:=n5;obtain rfl:o=o':=P4 (ho.symm.trans dr);have ql:es=gj:=by rw[hd]at cg;injection cg
  subst ql;have vv:valueAt kvs k=(es[i]?).map (·.val):=by rw[<-hf k,findBy_of_findIdx?,hi]
  have ao:i<es.size:=(Array.findIdx?_eq_some_iff_findIdx_eq.mp hi).1;rw[Q6 ao]at vv⊢;exact Pi (S6 (Px (there _ vv)))
 |none=>
  have fresh:k∉kvs.map (·.1):=not_mem_of_findIdx_none (qp▸hi);have oq:¬ (kvs.any λkv=>decide (kv.1=k))=true:=by
   rw[List.any_eq_true];rintro⟨kv,q1,q2⟩;exact fresh (Qc.mpr ⟨kv,q1,of_decide_eq_true q2⟩)
  have hv:valueAt kvs k=none:=by
   obtain⟨o',gj,gg,dr,_,cg,_,hf⟩:=n5;obtain rfl:o=o':=P4 (ho.symm.trans dr);have ql:es=gj:=by rw[hd]at cg;injection cg
   subst ql;rw[<-hf k,findBy_of_findIdx?,hi]
  refine Pi (S6 (Pi (wpAny_updateDictKeys (hz:=d8) (s:={ s with toks:=s.toks+1 }) ho hd (Px (new hv _ ⟨_,_,ep+1,QX _ ho (Obj.isFreed_of_dict (SM hd _)),hc.mapDictKeys _,SM hd _,hk.push ai _,?_,?_⟩ (Qg ..))))))
  ·rw[stored,if_neg oq];have q:=hp.append ai (knd.hash k) x;obtain⟨l⟩:=es;simpa using q
  ·rw[stored,if_neg oq,Qq,QM];refine⟨hn,by simp,λu rf v r8 e=>fresh ?_⟩;have:v=k:=by simpa using r8
   rw[<-this,<-e];exact rf
end
section
variable{K:Type}[DecidableEq K]
theorem jU(knd:HeapKind prog w K)(d a:Addr)(hd:(d == QG)=false)(x:Value):
  MeetsIn prog w (Builtin.«dict.setdefault» ⟨[.ref d,.ref a,x],[]⟩) (λA R s=>knd.room A.in1/\∃k xs,knd.is s.heap k a/\s.heap.DictOfH knd d xs/\xs.length<=PP/\(∀p,atKey xs k=some p->R (.ok (.ret p.2)) { s with toks:=s.toks+knd.draws k })/\
   (atKey xs k=none->∀h',h'.DictOfH knd d (storedH xs k a x)->Ra d s.heap h'->R (.ok (.ret x)) { s with heap:=h',toks:=s.toks+knd.draws k })):=
 .of_wp λA R s ⟨hu,k,xs,ai,hm,hz,r1,r2⟩=>by
  unfold Builtin.«dict.setdefault»;refine Pi ?_;unfold Builtin.Dict.keyAndDefault;refine Pi (RY hm.typeIs (show wpAny _ _ (pure (d,Qk a,some x)) _ _ s from Px ?_))
  show wpAny _ _ (if(d == QG)=true then _ else(SU d (.ref a) x >>= _)) _ _ s
  rw[if_neg (show ¬ _ from by rw[hd];decide)]
  exact Pi (rS hu ai hm hz (λp e=>Px ⟨p.2,rfl,r1 p e⟩) λe h' q1 q2=>Px ⟨x,rfl,r2 e h' q1 q2⟩)
theorem iT(knd:KeyKind prog w K)(d:Addr)(hd:(d == QG)=false){k:K}(ai:knd.is k key=true)(x:Value):
  MeetsIn prog w (Builtin.«dict.setdefault» ⟨[.ref d,key,x],[]⟩) (λA R s=>∃kvs,s.heap.DictOf knd d kvs/\kvs.length<=PP/\(∀v,valueAt kvs k=some v->R (.ok (.ret v)) { s with toks:=s.toks+1 })/\
   (valueAt kvs k=none->∀h',h'.DictOf knd d (stored kvs k x)->Ra d s.heap h'->R (.ok (.ret x)) { s with heap:=h',toks:=s.toks+1 })):=
 .of_wp λA R s ⟨kvs,hm,hz,r1,r2⟩=>by
  unfold Builtin.«dict.setdefault»;refine Pi ?_;unfold Builtin.Dict.keyAndDefault;refine Pi (RY hm.typeIs (show wpAny _ _ (pure (d,key,some x)) _ _ s from Px ?_))
  show wpAny _ _ (if(d == QG)=true then _ else(SU d key x >>= _)) _ _ s
  rw[if_neg (show ¬ _ from by rw[hd];decide)]
  exact Pi (pU ai hm hz (λv e=>Px ⟨v,rfl,r1 v e⟩) λe h' q1 q2=>Px ⟨x,rfl,r2 e h' q1 q2⟩)
end
variable{dc:Addr}{ep:Nat}{oc:Obj}{it:Addr}
section
variable{v:Addr}{es:Array RU}
theorem Da(hv:s.heap.IsValuesView v dc)(h1:s.heap.get? dc=some oc)(h2:oc.data=.dict es ep)(q:Q (.ref s.heap.objs.size) { s with heap:=s.heap.push { cls:=.type "dict_valueiterator",data:=.fields #[.ref dc,.int 0 0,.int es.size 0,.int ep 0] } }):wpAny (model prog w) A (pyIter (.ref v)) Q E s:=by
 obtain⟨ov,g1,g2,g3⟩:=id hv;refine wpAny_pyIter_slot hv.typeIs F.slot_dict_values_iter (Qy F.slot_dict_values_iter hv.typeIs F.entry_dict_values_iter (show wpAny _ _ (Builtin.«dict_values.__iter__» _) _ _ _ from ?_) (F.args_dict_values_iter_1 _))
 unfold Builtin.«dict_values.__iter__»;refine Pi (Px (Pi ?_));unfold Builtin.Dict_items.dictOf;refine Pi (S5 g1 g3 (x:=.ref dc) rfl (Px (Pi ?_)));unfold Builtin.Dict_items.newIterator;refine Pi (QN h1 h2 (Pi (Rw h1 h2 ?_)));rw[show Qs "dict_valueiterator" = false by decide];simp only[Qh,if_false];refine Qm (Px ⟨_,rfl,"dict_valueiterator",_,⟨_,PR _ rfl,rfl⟩,Q2.lookup,(by simpa[rawInt] using q)⟩)
theorem Ey{Q:Option Value->Shared->Prop}(hI:s.heap.IsValIter it dc i es.size ep)(h1:s.heap.get? dc=some oc)(h2:oc.data=.dict es ep)(ao:i<es.size)(q:∀h',h'.IsValIter it dc (i+1) es.size ep->Ra it s.heap h'->Q (some es[i].val) { s with heap:=h' }):wpAny (model prog w) A (pyNext (.ref it)) Q E s:=by
 obtain⟨oi,g1,g2,g3⟩:=id hI;unfold pyNext;refine Pi (SK (QH (name:=Pz "__next__") hI.typeIs Q2 (Qy Q2 hI.typeIs F.entry_dict_valueiterator_next ?_ (F.args_dict_valueiterator_next_1 _))));refine Pi (Px (Pi (Pi ?_)))
 first|refine Pi (RC hI.typeIs (Px ?_))|refine Pi (R9 hI.typeIs (Px ?_))
 refine Pi (SV g1 g3 ?_);rw[show Qs "dict_valueiterator" = false by decide];simp only[Qh,if_false]
 show wpAny _ _ (if(Qk dc == P7)=true then _ else _) _ _ s
 rw[if_neg (show ¬ ((Qk dc == P7)=true) from PY)]
 refine Pi (Px (Pi (QN h1 h2 ?_)));rw[if_neg (show ¬ _ by simp)];refine Pi (Px (Pi (Rw h1 h2 ?_)));rw[if_neg (show ¬ _ by simp)];refine Px ?_;simp only[show ¬ ((i:Int)<0) by omega,if_false,Sa,Q6 ao];refine Pi ?_
 first|refine Pi (RC hI.typeIs (Px ?_))|refine Pi (R9 hI.typeIs (Px ?_))
 refine Pi (wpAny_isOneOf_valiter hI.typeIs (show wpAny _ _ (setField (.ref it) 1 (rawInt ((i:Int)+1)) >>= _) _ _ s from Pi (Sn g1 g3 (by simp) ?_)))
 have iz:(s.heap.update it (RK (·.setIfInBounds 1 (rawInt ((i:Int)+1))))).IsValIter it dc (i+1) es.size ep:=
  ⟨_,QX _ g1 (SC (RZ g3 _)),(Obj.cls_mapFields ..).trans g2,by rw[RZ g3];simp[rawInt]⟩
 have ka:({ s with heap:=s.heap.update it (RK (·.setIfInBounds 1 (rawInt ((i:Int)+1)))) }:Shared).TypeIs (.ref it) "dict_valueiterator" := iz.typeIs;refine Pi (QZ (Pi (wpAny_isOneOf_valiter ka (Pi (wpAny_isOneOf_valiter ka ?_)))))
 show wpAny _ _ (pure es[i].val) _ _ _
 exact Px (Px ⟨_,rfl,Px (q _ iz (Qg ..))⟩)
theorem Ez{Q:Option Value->Shared->Prop}(hh:A.handled=none)(hI:s.heap.IsValIter it dc i es.size ep)(h1:s.heap.get? dc=some oc)(h2:oc.data=.dict es ep)(ju:es.size<=i)(q:∀h',Heap.ExtBut it s.heap h'->Q none { s with heap:=h' }):wpAny (model prog w) A (pyNext (.ref it)) Q E s:=by
 obtain⟨oi,g1,g2,g3⟩:=id hI;unfold pyNext;refine Pi (SK (QH (name:=Pz "__next__") hI.typeIs Q2 (Qy Q2 hI.typeIs F.entry_dict_valueiterator_next ?_ (F.args_dict_valueiterator_next_1 _))));refine Pi (Px (Pi (Pi ?_)))
 first|refine Pi (RC hI.typeIs (Px ?_))|refine Pi (R9 hI.typeIs (Px ?_))
 refine Pi (SV g1 g3 ?_);rw[show Qs "dict_valueiterator" = false by decide];simp only[Qh,if_false]
 show wpAny _ _ (if(Qk dc == P7)=true then _ else _) _ _ s
 rw[if_neg (show ¬ ((Qk dc == P7)=true) from PY)]
 refine Pi (Px (Pi (QN h1 h2 ?_)));rw[if_neg (show ¬ _ by simp)];refine Pi (Px (Pi (Rw h1 h2 ?_)));rw[if_neg (show ¬ _ by simp)];refine Px ?_;simp only[show ¬ ((i:Int)<0) by omega,if_false,Sa,Q5 ju];refine Pi ?_
 first|refine Pi (RC hI.typeIs (Px ?_))|refine Pi (R9 hI.typeIs (Px ?_))
 refine(show wpAny _ _ (setField (.ref it) 0 .none >>= _) _ _ s from Pi (Sn g1 g3 (by simp) ?_))
 refine(show wpAny _ _ (newExc (.type "StopIteration") [] >>= _) _ _ _ from Pi ?_);simp only[newExc,newTuple]
 refine Pi (Qm (Pi (m:=SX _ _) (wpAny_of_eq (a:=P7) (by first|rfl|(simp only[SX];rfl)) (Qm ?_ (by size_fits)))) (by size_fits))
 simp only[raiseNew];refine Pi (wpAny_handled ?_);rw[show A.in1.handled=none from hh]
 refine Pi (Px (wpAny_throw ?_));refine Pi (S0 (T:="StopIteration") (b:=true) ⟨_,PR _ rfl,rfl⟩ isSubtype_stop ?_);exact Px (q _ (((Qg ..).extBut.push _).push _))
theorem B9(hh:A.handled=none)(I dc:Addr)(lg:dc≠I)(oc:Obj)(es:Array RU)(ep:Nat)(h2:oc.data=.dict es ep):
  Walks prog w A I [I,dc] [I] es.size (λi v=>∃e,es[i]?=some e/\v=e.val) (λi h=>h.IsValIter I dc i es.size ep/\h.get? dc=some oc) where
 sub:=λb hb=>by rw[Qe.mp hb];exact PN
 frame:=λ_ _ _ st hk=>⟨let ⟨o,e,r⟩:=st.1;⟨o,hk I PN o e,r⟩,hk dc (PK _ PN) _ st.2⟩
 item:=λi s Q E hi st hQ=>Ey st.1 st.2 h2 hi λh' ui fv=>hQ _ h' s.toks ⟨es[i],by simp[hi],rfl⟩ ⟨ui,(fv.2 dc lg).trans st.2⟩ λb o hb e=>(fv.2 b λz=>hb (by rw[z];exact PN)).trans e
 done:=λs Q E st hQ=>Ez hh st.1 st.2 h2 (PD _) λh' jc=>hQ h' s.toks λb o hb e=>jc b o (λz=>hb (by rw[z];exact PN)) e
 self:=λ_ _ _ _ st hQ=>wpAny_pyIter_valiter st.1 hQ
theorem EA{r:Addr}(h2:oc.data=.dict es ep):PySem.W.KdlSrc prog w "dict_values" r dc es.size (λi v=>∃e,es[i]?=some e/\v=e.val) (λh=>h.IsValuesView r dc/\h.get? dc=some oc) where
 type:=λ_ hm=>hm.1.typeIs
 there:=λ_ hm=>⟨let ⟨_,ho,_⟩:=hm.1;PU ho,PU hm.2⟩
 keep:=λ_ _ hm hk=>⟨let ⟨o,ho,x⟩:=hm.1;⟨o,hk r (.inl rfl) o ho,x⟩,hk dc (.inr rfl) _ hm.2⟩
 notList:=by decide
 notTuple:=by decide
 hint:=λ_ _ _ _ hm hq=>PySem.W.kdl_hint_values hm.1.typeIs hq
 iter:=λ_ _ hh hm=>⟨_,_,(λ_ _ hq=>Da hm.1 hm.2 h2 hq),B9 hh _ dc (P9 (PU hm.2)) oc es ep h2,⟨⟨_,PR _ rfl,rfl,rfl⟩,PB _ hm.2⟩⟩
theorem yG(dc:Addr)(hd:(dc == QG)=false):MeetsIn prog w (Builtin.«dict.values» ⟨[.ref dc],[]⟩) (λ_ R s=>s.TypeIs (.ref dc) "dict" /\
   R (.ok (.ret (.ref s.heap.objs.size))) { s with heap:=s.heap.push { cls:=.type "dict_values",data:=.fields #[.ref dc] } }):=
 .of_wp λA R s ⟨hT,h⟩=>by
  refine Pi ?_;unfold Builtin.Dict.noArgs;refine Pi (RY hT (show wpAny _ _ (pure dc) _ _ s from Px (show wpAny _ _ (Rx dc >>= _) _ _ s from ?_)))
  unfold Rx;rw[if_neg (show ¬ _ from by rw[hd];decide)]
  refine Pi (Px (Pi (Qm (Px ⟨_,rfl,h⟩))))
end
namespace FR
theorem nolen_lr:typeLookup (.type "list_reverseiterator") "__len__" = pure none:=by rw[typeLookup_type,builtinLookup_eq_fast];kernel_rfl
theorem hint_lr:typeLookup (.type "list_reverseiterator") "__length_hint__" = pure (some (.builtin "list_reverseiterator.__length_hint__")):=by rw[typeLookup_type,builtinLookup_eq_fast];kernel_rfl
end FR
abbrev EB(items:Array Value)(i:Nat)(v:Value):Prop:=items[items.size-1-i]?=some v
theorem EC{Q:Bool->Shared->Prop}(hT:s.TypeIs (.ref it) "list_reverseiterator")(h:Q false s):wpAny (model prog w) A (Builtin.List.listLengthHint (.ref it)) Q E s:=by
 unfold Builtin.List.listLengthHint;refine Pi (R6 hT FR.nolen_lr ?_)
 show wpAny _ A (specialOf (Qk it) (Pz "__length_hint__") >>= _) _ _ _
 refine Pi (R6 hT FR.hint_lr ?_);generalize vc:("list_reverseiterator.__length_hint__" : String)=id0
 wp_delta
 rw[show splitId id0=some ("list_reverseiterator","__length_hint__") from by subst vc;decide +kernel]
 subst vc;refine Pi (S0 (b:=true) hT (by rw[isSubtype_type];kernel_rfl) ?_);exact Px h
variable{items:Array Value}{l:Addr}
theorem B'(hh:A.handled=none)(hit:s.heap.IsRevIter it l ((items.size:Int)-1))(hl:s.heap.IsList l items)(lg:l≠it)(S:Addr)(u4:S≠it)(y6:S≠l)(res:Value)(c₀:Nat)(hS:s.heap.get? S=some { cls:=.type "list",data:=.seq #[] c₀ })(hR:∀h' tk b6 c',(∀b o,b≠S->b≠it->s.heap.get? b=some o->h'.get? b=some o)->h'.get? S=some { cls:=.type "list",dict:=none,data:=.seq b6 c',slots:=#[] }->ItemsOf (EB items) b6 items.size->R (.ok (.ret res)) { s with heap:=h',toks:=tk })(hn:items.size<=PP):
  wpAny (model prog w) A.in1 (RQ (.ref S) (.ref it) res)
   (λfin s'=>match fin with|.done f=>R (.ok f) s'|.again c'=>c'.quiet=true/\codeAny (model prog w) A c' R s') (λe s'=>R (.error e) s') s:=by
 have Pu:S∉[it,l]:=by simp only[P5,List.not_mem_nil,or_false,not_or];exact⟨u4,y6⟩
 have W:=Walks.listRev (prog:=prog) (w:=w) (A:=A.in1) hh it l lg items;have u6:0<=items.size/\s.heap.IsRevIter it l ((items.size:Int)-1-((0:Nat):Int))/\s.heap.IsList l items:=⟨Qd _,by
  have e:(items.size:Int)-1-((0:Nat):Int)=(items.size:Int)-1:=by omega
  rw[e];exact hit,hl⟩
 unfold RQ;refine Pi (wpAny_typeOf (T:="list_reverseiterator") hit.typeIs ?_);have h1:Builtin.List.listSameRef (.ref S) (.ref it)=false:=by simp[Builtin.List.listSameRef,u4]
 have h2:(Td "list_reverseiterator" == Td "list")=false:=by decide
 have h3:(Td "list_reverseiterator" == Td "tuple")=false:=by decide
 simp only[h1,h2,h3,Bool.or_false,Qh,if_false];refine Pi (W.self _ _ _ _ u6 ?_);refine Pi (QZ (EC hit.typeIs ?_));rw[if_neg (by decide)];refine Px ⟨plainId_quiet PySem.F.plain_extend_loop _,codeAny_extend_loopS W.toS hn S Pu res items.size 0 _ #[] c₀ rfl (Qd _) u6 hS (ItemsOf.nil _) λs' b6 c' hm tj az=>?_⟩;rw[Moved.eq_with hm];refine hR s'.heap s'.toks b6 c' (λb o hb hi e=>hm.heap b o (λhmem=>?_) e) tj az;rcases P5.mp hmem with e'|hmem
 ·exact hb e'
 ·exact hi (Qe.mp hmem)
theorem vF(hh:A.handled=none)(hit:s.heap.IsRevIter it l ((items.size:Int)-1))(hl:s.heap.IsList l items)(lg:l≠it)(hn:items.size<=PP)(hQ:∀h' tk b6 c',(∀b o,b≠it->s.heap.get? b=some o->h'.get? b=some o)->h'.get? s.heap.objs.size=some { cls:=.type "list",dict:=none,data:=.seq b6 c',slots:=#[] }->ItemsOf (EB items) b6 items.size->Q (.ref s.heap.objs.size) { s with heap:=h',toks:=tk }):
  wpAny (model prog w) A (call (.type "list") [.ref it]) Q E s:=by
 refine callType_codes (Q₁:=λobj s₁=>obj=.ref s.heap.objs.size/\s₁={ s with heap:=s.heap.push { cls:=.type "list",data:=.seq #[] } }) PySem.F.called_list (PySem.F.typeCall_list_1 _) PySem.F.entry_list_init
  (code_list_new _ ⟨rfl,rfl⟩) λobj s₁ h₁=>?_
 obtain⟨rfl,rfl⟩:=h₁
 have hS:(s.heap.push { cls:=.type "list",data:=.seq #[] }).get? s.heap.objs.size=some { cls:=.type "list",data:=.seq #[] }:=PR _ rfl
 have xm:it<s.heap.objs.size:=let ⟨o,ho,_⟩:=hit;PU ho
 have o9:l<s.heap.objs.size:=let ⟨o,ho,_⟩:=hl;PU ho
 refine⟨⟨_,hS,rfl⟩,PySem.F.args_list_init_2 _ _,?_⟩
 show wpAny _ A.in1.in1 (do let old <-Builtin.List.listItems (.ref s.heap.objs.size);Builtin.List.listUpdate (.ref s.heap.objs.size) (λ_=>#[]);letGo old.toList.reverse;RQ (.ref s.heap.objs.size) (.ref it) .none) _ _ _
 refine Pi ?_
 unfold Builtin.List.listItems
 refine Pi (wpAny_seqItems hS rfl (Px ?_))
 show wpAny _ _ (updateSeq s.heap.objs.size (λ_=>#[]) >>= λ_=>letGo (#[]:Array Value).toList.reverse >>= λ_=>RQ (.ref s.heap.objs.size) (.ref it) .none) _ _ _
 refine Pi (wpAny_updateSeq hS rfl ?_)
 have ye:=QX (Qj (λ_=>(#[]:Array Value))) hS rfl
 have qx:∀b o,b≠s.heap.objs.size->s.heap.get? b=some o->((s.heap.push { cls:=.type "list",data:=.seq #[] }).update s.heap.objs.size (Qj (λ_=>(#[]:Array Value)))).get? b=some o:=
  λb o hb e=>(So _ _ (QS hb)).trans (PB _ e)
 refine Pi (wpAny_letGo ?_)
 refine B' (A:=A.in1) hh (hit.at λo e=>qx it o (P9 xm) e) (let ⟨o,ho,r⟩:=hl;⟨o,qx l o (P9 o9) ho,r⟩) lg s.heap.objs.size (Sd xm) (Sd o9) .none _ ye (λh' tk b6 c' hk tj az=>?_) hn
 exact⟨rfl,hQ h' tk b6 c' (λb o hb e=>hk b o (P9 (PU e)) hb (qx b o (P9 (PU e)) e)) tj az⟩
variable{ov:Value}
theorem gL{ok:Value}(hI:IsItemIter s.heap it dc i n ep ok ov):s.TypeIs (.ref it) "dict_itemiterator" := ⟨_,hI,rfl⟩
theorem Ba{v:Addr}{es:Array RU}(hv:s.heap.IsItemsView v dc)(h1:s.heap.get? dc=some oc)(h2:oc.data=.dict es ep)(q:Q (.ref s.heap.objs.size) { s with heap:=s.heap.push { cls:=.type "dict_itemiterator",data:=.fields #[.none,.bool false,.ref dc,.int 0 0,.int es.size 0,.int ep 0,.none,.none] } }):wpAny (model prog w) A (pyIter (.ref v)) Q E s:=by
 obtain⟨ov,g1,g2,g3⟩:=id hv;refine wpAny_pyIter_slot hv.typeIs F.slot_dict_items_iter (Qy F.slot_dict_items_iter hv.typeIs F.entry_dict_items_iter (show wpAny _ _ (Builtin.«dict_items.__iter__» _) _ _ _ from ?_) (F.args_dict_items_iter_1 _))
 unfold Builtin.«dict_items.__iter__»;refine Pi (Px (Pi ?_));unfold Builtin.Dict_items.dictOf;refine Pi (S5 g1 g3 (x:=.ref dc) rfl (Px (Pi ?_)));unfold Builtin.Dict_items.newIterator;refine Pi (QN h1 h2 (Pi (Rw h1 h2 ?_)));rw[show Qs "dict_itemiterator" = true by decide];simp only[if_true,Builtin.Dict_items.ownedTupleFields,List.cons_append,List.nil_append,Qh,if_false];refine Qm (Px ⟨_,rfl,"dict_itemiterator",_,⟨_,PR _ rfl,rfl⟩,QL.lookup,(by simpa[rawInt] using q)⟩)
theorem next_item{es:Array RU}{ok:Value}{Q:Option Value->Shared->Prop}(hI:IsItemIter s.heap it dc i es.size ep ok ov)(h1:s.heap.get? dc=some oc)(h2:oc.data=.dict es ep)(ao:i<es.size)(q:∀h',IsItemIterOut h' it dc (i+1) es.size ep es[i].key es[i].val s.heap.objs.size->h'.get? s.heap.objs.size=some { cls:=.type "tuple",data:=.seq #[es[i].key,es[i].val] }->
   (∀(b:Addr)(o:Obj),b≠it->s.heap.get? b=some o->h'.get? b=some o)->Q (some (.ref s.heap.objs.size)) { s with heap:=h' }):wpAny (model prog w) A (pyNext (.ref it)) Q E s:=by
 have hT:=gL hI;unfold pyNext;refine Pi (SK (QH (name:=Pz "__next__") hT QL (Qy QL hT F.entry_dict_itemiterator_next ?_ (F.args_dict_itemiterator_next_1 _))));refine Pi (Px (Pi (Pi ?_)))
 first|refine Pi (Ry hT (Px ?_))|refine Pi (R3 hT (Px ?_))
 refine Pi (SV hI rfl ?_);rw[show Qs "dict_itemiterator" = true by decide];simp only[if_true]
 show wpAny _ _ (if(Qk dc == P7)=true then _ else _) _ _ s
 rw[if_neg (show ¬ ((Qk dc == P7)=true) from PY)]
 refine Pi (Px (Pi (QN h1 h2 ?_)));rw[if_neg (show ¬ _ by simp)];refine Pi (Px (Pi (Rw h1 h2 ?_)));rw[if_neg (show ¬ _ by simp)];refine Px ?_;simp only[show ¬ ((i:Int)<0) by omega,if_false,Sa,Q6 ao];refine Pi ?_
 first|refine Pi (Ry hT (Px ?_))|refine Pi (R3 hT (Px ?_))
 refine Pi (wpAny_isOneOf_itemiter hT (show wpAny _ _ (setField (.ref it) 3 (rawInt ((i:Int)+1)) >>= _) _ _ s from Pi (Sn hI rfl (by simp) ?_)))
 have iz:IsItemIter (s.heap.update it (RK (·.setIfInBounds 3 (rawInt ((i:Int)+1))))) it dc (i+1) es.size ep ok ov:=by
  show(s.heap.update it _).get? it=_
  rw[QX _ hI (SC (RZ rfl _))];simp[RK,rawInt]
 have kp:∀(b:Addr)(o:Obj),b≠it->s.heap.get? b=some o->(s.heap.update it (RK (·.setIfInBounds 3 (rawInt ((i:Int)+1))))).get? b=some o:=λb o hb e=>by
  rw[(Qg ..).2 b hb];exact e
 have sz:(s.heap.update it (RK (·.setIfInBounds 3 (rawInt ((i:Int)+1))))).objs.size=s.heap.objs.size:=(Qg ..).1;generalize s.heap.update it (RK (·.setIfInBounds 3 (rawInt ((i:Int)+1))))=hA at iz kp sz;have ka:({ s with heap:=hA }:Shared).TypeIs (.ref it) "dict_itemiterator" := gL iz;refine Pi (QZ (Pi (wpAny_isOneOf_itemiter ka (Pi (wpAny_isOneOf_itemiter ka ?_)))))
 show wpAny _ _ (Builtin.Dict_items.pairFromOwner (.ref it) 6 es[i].key es[i].val) _ _ _
 unfold Builtin.Dict_items.pairFromOwner;simp only[newTuple];refine Pi (Qm ?_ (by size_fits));have m8:IsItemIter (hA.push { cls:=.type "tuple",data:=.seq #[es[i].key,es[i].val] }) it dc (i+1) es.size ep ok ov:=PB _ iz;have gt:(hA.push { cls:=.type "tuple",data:=.seq #[es[i].key,es[i].val] }).get? hA.objs.size=some { cls:=.type "tuple",data:=.seq #[es[i].key,es[i].val] }:=PR _ rfl;have p8:∀(b:Addr)(o:Obj),b≠it->s.heap.get? b=some o->(hA.push { cls:=.type "tuple",data:=.seq #[es[i].key,es[i].val] }).get? b=some o:=λb o hb e=>PB _ (kp b o hb e);rw[sz]at gt;have ne:s.heap.objs.size≠it:=Sd (PU hI)
 show wpAny _ _ _ _ _ { s with heap:=hA.push { cls:=.type "tuple",data:=.seq #[es[i].key,es[i].val] } }
 generalize hA.push { cls:=.type "tuple",data:=.seq #[es[i].key,es[i].val] }=hB at m8 gt p8;have eA:(Qk ({ s with heap:=hA }:Shared).heap.objs.size)=.ref s.heap.objs.size:=by rw[<-sz]
 simp only[eA];unfold Builtin.Dict_items.ownedTupleIsFree;refine Pi (Pi (S5 (s:={ s with heap:=hB }) m8 rfl (x:=.none) rfl (Px ?_)));simp only[if_true];refine Pi (S5 (s:={ s with heap:=hB }) m8 rfl (x:=ok) rfl (Pi (S5 (s:={ s with heap:=hB }) m8 rfl (x:=ov) rfl ?_)));have qe:∀{h1:Heap}{fs:Array Value}{j:Nat}{x:Value}{α:Type}{f:Unit->Sem α}{R:α->Shared->Prop}{E':Value->Shared->Prop},h1.get? it=some { cls:=.type "dict_itemiterator",data:=.fields fs }->j<fs.size->
   (∀h2:Heap,h2.get? it=some { cls:=.type "dict_itemiterator",data:=.fields (fs.setIfInBounds j x) }->(∀(b:Addr),b≠it->h2.get? b=h1.get? b)->wpAny (model prog w) A.in1 (f ()) R E' { s with heap:=h2 })->
   wpAny (model prog w) A.in1 (setField (.ref it) j x >>= f) R E' { s with heap:=h1 }:=λ{h1 fs j x α f R E'} g hj k=>by
  refine Pi (Sn (s:={ s with heap:=h1 }) g rfl hj ?_);refine k _ ?_ λb hb=>(Qg ..).2 b hb;rw[QX _ g (SC (RZ rfl _))];simp[RK]
 refine qe m8 (by simp) λh3 g3 s3=>?_;refine qe g3 (by simp) λh4 g4 s4=>?_;refine qe g4 (by simp) λh5 g5 s5=>?_;refine qe g5 (by simp) λh6 g6 s6=>?_;refine Pi (wpAny_letGo (Px (Px ⟨_,rfl,Px (q h6 (by rw[<-sz];show h6.get? it=_;rw[g6];simp) ?_ λb o hb e=>?_)⟩)))
 ·rw[s6 _ ne,s5 _ ne,s4 _ ne,s3 _ ne];exact gt
 ·rw[s6 _ hb,s5 _ hb,s4 _ hb,s3 _ hb];exact p8 b o hb e
theorem Dc{es:Array RU}{ok:Value}{Q:Option Value->Shared->Prop}(hh:A.handled=none)(hI:IsItemIter s.heap it dc i es.size ep ok ov)(h1:s.heap.get? dc=some oc)(h2:oc.data=.dict es ep)(ju:es.size<=i)(q:∀h',Heap.ExtBut it s.heap h'->Q none { s with heap:=h' }):wpAny (model prog w) A (pyNext (.ref it)) Q E s:=by
 have hT:=gL hI;unfold pyNext;refine Pi (SK (QH (name:=Pz "__next__") hT QL (Qy QL hT F.entry_dict_itemiterator_next ?_ (F.args_dict_itemiterator_next_1 _))));refine Pi (Px (Pi (Pi ?_)))
 first|refine Pi (Ry hT (Px ?_))|refine Pi (R3 hT (Px ?_))
 refine Pi (SV hI rfl ?_);rw[show Qs "dict_itemiterator" = true by decide];simp only[if_true]
 show wpAny _ _ (if(Qk dc == P7)=true then _ else _) _ _ s
 rw[if_neg (show ¬ ((Qk dc == P7)=true) from PY)]
 refine Pi (Px (Pi (QN h1 h2 ?_)));rw[if_neg (show ¬ _ by simp)];refine Pi (Px (Pi (Rw h1 h2 ?_)));rw[if_neg (show ¬ _ by simp)];refine Px ?_;simp only[show ¬ ((i:Int)<0) by omega,if_false,Sa,Q5 ju];refine Pi ?_
 first|refine Pi (Ry hT (Px ?_))|refine Pi (R3 hT (Px ?_))
 refine(show wpAny _ _ (setField (.ref it) 2 .none >>= _) _ _ s from Pi (Sn hI rfl (by simp) ?_))
 refine(show wpAny _ _ (newExc (.type "StopIteration") [] >>= _) _ _ _ from Pi ?_);simp only[newExc,newTuple]
 refine Pi (Qm (Pi (m:=SX _ _) (wpAny_of_eq (a:=P7) (by first|rfl|(simp only[SX];rfl)) (Qm ?_ (by size_fits)))) (by size_fits))
 simp only[raiseNew];refine Pi (wpAny_handled ?_);rw[show A.in1.handled=none from hh]
 refine Pi (Px (wpAny_throw ?_));refine Pi (S0 (T:="StopIteration") (b:=true) ⟨_,PR _ rfl,rfl⟩ isSubtype_stop ?_);exact Px (q _ (((Qg ..).extBut.push _).push _))
theorem tH:entryFor table "dict_itemiterator.__iter__" = some Builtin.«dict_keyiterator.__iter__»:=entryFor_alias (id:="dict_itemiterator.__iter__") (id':="dict_keyiterator.__iter__") (by first|rfl|decide +kernel) (by first|rfl|decide +kernel) (by decide +kernel) (by rfl)
theorem Bb{ok:Value}(hI:IsItemIter s.heap it dc i n ep ok ov)(q:Q (.ref it) s):wpAny (model prog w) A (pyIter (.ref it)) Q E s:=by
 have hT:=gL hI;refine wpAny_pyIter_slot hT F.slot_dict_itemiterator_iter (Qy F.slot_dict_itemiterator_iter hT tH (show wpAny _ _ (Builtin.«dict_keyiterator.__iter__» _) _ _ _ from ?_) (F.args_dict_itemiterator_iter_1 _))
 unfold Builtin.«dict_keyiterator.__iter__»;refine Pi (Px ?_);exact Px ⟨_,rfl,"dict_itemiterator",_,hT,QL.lookup,q⟩
theorem Ah(dc:Addr)(hd:(dc == QG)=false):MeetsIn prog w (Builtin.«dict.items» ⟨[.ref dc],[]⟩) (λ_ R s=>s.TypeIs (.ref dc) "dict" /\
   R (.ok (.ret (.ref s.heap.objs.size))) { s with heap:=s.heap.push { cls:=.type "dict_items",data:=.fields #[.ref dc] } }):=
 .of_wp λA R s ⟨hT,h⟩=>by
  refine Pi ?_;unfold Builtin.Dict.noArgs;refine Pi (RY hT (show wpAny _ _ (pure dc) _ _ s from Px (show wpAny _ _ (Rx dc >>= _) _ _ s from ?_)))
  unfold Rx;rw[if_neg (show ¬ _ from by rw[hd];decide)]
  refine Pi (Px (Pi (Qm (Px ⟨_,rfl,h⟩))))
open PySem PySem.Spec PyProof.Rows PySem.SeqAt PySem.W
def cG(b:Bool)(n i:Nat):Nat:=if b then n-1-i else i
def Ai(b:Bool)(n:Nat)(p:List Nat):List Nat:=katRev b (p.map (cG b n))
theorem kB{α:Type}(b:Bool){l:List α}{d:α}(hi:i<l.length):(katRev b l).getD i d=l.getD (cG b l.length i) d:=by
 cases b with
 |false=>rfl
 |true=>
  show l.reverse.getD i d=l.getD (l.length-1-i) d
  rw[Rm,Rm,List.getElem?_reverse hi]
theorem fU(h:i<n):cG b n i<n:=by
 unfold cG;split <;> omega
theorem Bc{p:List Nat}(h:p.Perm (Qi n)):(Ai b n p).Perm (Qi n):=by
 cases b with
 |false=>
  have e:Ai false n p=p:=by
   show p.map (λi=>cG false n i)=p
   have:(λi=>cG false n i)=id:=by funext i;rfl
   rw[this,List.map_id]
  rw[e];exact h
 |true=>
  have e:(Qi n).map (cG true n)=(Qi n).reverse:=by
   apply List.ext_getElem
   ·simp
   ·intro i h1 h2;simp[cG]
  show((p.map (cG true n)).reverse).Perm _
  refine(List.reverse_perm _).trans ((h.map _).trans ?_);rw[e];exact List.reverse_perm _
theorem Be{p:List Nat}{lt:Nat->Nat->Bool}(h:p.Pairwise (λi j=>lt (cG b n j) (cG b n i)=false)):(Ai b n p).Pairwise (λi j=>(if b then lt i j else lt j i)=false):=by
 have h1:(p.map (cG b n)).Pairwise (λi j=>lt j i=false):=Rq.mpr h;cases b with
 |false=>exact h1
 |true=>
  show((p.map (cG true n)).reverse).Pairwise _
  rw[List.pairwise_reverse];exact h1
theorem De{vs:List Value}{p:List Nat}(h:∀i∈p,i<vs.length):katRev b (p.map λi=>(katRev b vs).getD i P7)=(Ai b vs.length p).map λi=>vs.getD i P7:=by
 have e:(p.map λi=>(katRev b vs).getD i P7)=(p.map (cG b vs.length)).map λi=>vs.getD i P7:=by
  rw[Qw];exact Rp λi hi=>kB b (h i hi)
 rw[e];unfold Ai katRev;split
 ·rw[List.map_reverse]
 ·rfl
theorem Bf{α:Type}(b:Bool)(l:List α):katRev b (katRev b l)=l:=by
 unfold katRev;split <;> simp
theorem range_getD(vs:List Value):((Qi vs.length).map λi=>vs.getD i P7)=vs:=by
 apply Ro;intro i
 by_cases hi:i<vs.length
 ·simp[hi]
 ·simp[hi]
variable{e1:Nat}{kS:Addr}{out:List Value}
section
variable{vs ks:List Value}
theorem IS{st:SortSt}{e:Nat}{P:PySem.Fin->Shared->Prop}(jh:(arrOf st).map (·.2)=out.toArray)(hz:out.length<64)(hkz:ks.length<64)(hf:failedOf st=none)(k0:kS≠a)(gk:s.heap.get? kS=some (seqObj "list" ks.toArray e))(ga:s.heap.get? a=some (seqObj "list" #[] e1))(h:∀(h':Heap)(c:Nat),(∀x o,x≠a->x≠kS->s.heap.get? x=some o->h'.get? x=some o)->h'.get? a=some (seqObj "list" (katRev b out).toArray c)->(∃o,h'.get? kS=some o)->P (.done (.ret .none)) { s with heap:=h' }):
  wpAny (model prog w) A (ksk_tail a b e1 (.ref kS) st) P E s:=by
 have w1:=Qg s.heap kS (Qj λ_=>(#[]:Array Value));obtain⟨ck,hck⟩:∃ck,(s.heap.update kS (Qj λ_=>(#[]:Array Value))).get? kS=some (seqObj "list" #[] ck):=⟨_,SB gk λ_=>#[]⟩;have r9:=(w1.2 a k0.symm).trans ga;have w2:=Qg (s.heap.update kS (Qj λ_=>(#[]:Array Value))) a (Qj λ_=>(katRev b out).toArray);obtain⟨c2,d0⟩:∃c2,((s.heap.update kS (Qj λ_=>(#[]:Array Value))).update a (Qj λ_=>(katRev b out).toArray)).get? a=some (seqObj "list" (katRev b out).toArray c2):=⟨_,SB r9 λ_=>(katRev b out).toArray⟩;have hsz:(katRev b out).toArray.size=out.length:=by rw[PJ,kat_len]
 unfold ksk_tail
 try dsimp only
 rw[jh,kat_outs];refine Pi (RX gk rfl ?_ (by rw[PJ,Qt];omega) (Qd _));refine Pi (wpAny_letGo (Pi (seqEpoch_at r9 rfl ?_)));refine Pi (RX r9 rfl ?_ (Qd _) (Qb (Nat.le_of_eq hsz) (by rw[Qt];omega)));rw[hf];simp only[bne_self_eq_false,Qh,if_false];exact Px (h _ c2 (λx o h1 h2 q=>(w2.2 x h1).trans ((w1.2 x h2).trans q)) d0 ⟨_,(w2.2 kS k0).trans hck⟩)
theorem O0{e:Nat}{P:PySem.Fin->Shared->Prop}(lt:Nat->Nat->Bool)(hl:ks.length=vs.length)(fg:vs.length<64)(k0:kS≠a)(tr:∀i j k,i<vs.length->j<vs.length->k<vs.length->lt j i=false->lt k j=false->lt k i=false)(as:∀i j,i<vs.length->j<vs.length->lt i j=true->lt j i=false)(gk:s.heap.get? kS=some (seqObj "list" ks.toArray e))(ga:s.heap.get? a=some (seqObj "list" #[] e1))(hk:2<=vs.length->∀(Q:SortKind->Shared->Prop) E',Q κ s->wpAny (model prog w) A (keyKind' ks.toArray) Q E' s)(ao:∀i j,i<vs.length->j<vs.length->∀Q:Bool->Shared->Prop,Q (lt i j) s->wpAny (model prog w) A (keyLt' κ (ks.getD i P7) (ks.getD j P7)) Q (λ_ _=>False) s)(h:∀(p:List Nat)(h':Heap)(c:Nat),p.Perm (Qi vs.length)->p.Pairwise (λi j=>(if b then lt i j else lt j i)=false)->(∀x o,x≠a->x≠kS->s.heap.get? x=some o->h'.get? x=some o)->
   h'.get? a=some (seqObj "list" (p.map λi=>vs.getD i P7).toArray c)->(∃o,h'.get? kS=some o)->P (.done (.ret .none)) { s with heap:=h' }):
  wpAny (model prog w) A (ksk_end a b vs.toArray e1 (.ref kS) ks.toArray) P E s:=by
 have skip:∀t:Sem PySem.Fin,wpAny (model prog w) A t P E s->wpAny (model prog w) A (if b=true then(do let _ <-rule "list.sort.reverse";t) else t) P E s:=λt ht=>by
  split
  ·exact Pi (S6 ht)
  ·exact ht
 have tw:(katRev b ks).length=(katRev b vs).length:=by rw[kat_len,kat_len,hl]
 unfold ksk_end
 try dsimp only
 refine skip _ ?_
 rw[kat_pairs b hl]
 by_cases h2:vs.toArray.size<2
 ·rw[if_pos h2,if_pos h2]
  rw[PJ]at h2
  refine Pi (Px ?_)
  rw[StateT.run_pure]
  refine Pi (Px ?_)
  try dsimp only
  refine IS (st:=SortSt.mk' general' ((katRev b ks).toArray.zip (katRev b vs).toArray) #[] 7 none) (out:=katRev b vs) (ks:=ks) ?_ (by rw[kat_len];exact fg) (by omega) rfl k0 gk ga λh' c k1 k2 k3=>?_
  ·show((katRev b ks).toArray.zip (katRev b vs).toArray).map (·.2)=(katRev b vs).toArray
   apply Array.toList_inj.mp
   rw[Array.toList_map,ksk_zip]
   show(List.zip _ _).map Prod.snd=_
   rw[List.map_snd_zip (by rw[tw];exact PD _)]
  ·rw[Bf]at k2
   refine h (Qi vs.length) h' c (List.Perm.refl _) ?_ k1 (by rw[range_getD];exact k2) k3
   rw[List.pairwise_iff_getElem]
   intro i j hi hj b9
   simp only[R8]at hi hj
   omega
 ·rw[if_neg h2,if_neg h2]
  rw[PJ]at h2
  refine Pi (hk (by omega) _ _ ?_)
  have sj:(kas_sort (katRev b vs).length).kasWp (kas_ask prog w A κ (katRev b ks)) (λp df=>p=evT (λi j=>lt (cG b vs.length i) (cG b vs.length j)) (kas_sort vs.length)/\df=s) s:=by
   rw[kat_len]
   refine sZ (n:=vs.length) (lt:=λi j=>lt (cG b vs.length i) (cG b vs.length j)) (λi j C hi hj hC=>?_) (sY (by omega)) ⟨rfl,rfl⟩
   show wpAny (model prog w) A (keyLt' κ ((katRev b ks).getD i P7) ((katRev b ks).getD j P7)) C (λ_ _=>False) s
   rw[kB b (by omega),kB b (by omega),hl]
   exact ao _ _ (fU hi) (fU hj) C hC
  refine Pi (RB (kat_run (ks:=katRev b ks) (vs:=katRev b vs) (E:=E) (Q:=λbx s'=>s'=s/\arrOf bx=(evT (λi j=>lt (cG b vs.length i) (cG b vs.length j)) (kas_sort vs.length)).map (kas_item ((katRev b ks).toArray.zip (katRev b vs).toArray))/\failedOf bx=none)
   tw (by rw[kat_len];omega) (by rw[kat_len];exact fg) (λp bx s' _ a2 a3 a4=>⟨a4.2,by rw[a2,a4.1],a3⟩) sj) ?_ λ_ _ x=>x)
  rintro⟨⟨⟩,bx⟩ s' ⟨rfl,har,hf⟩
  try dsimp only
  obtain⟨c1,c2⟩:=Ae (n:=vs.length) (lt:=λi j=>lt (cG b vs.length i) (cG b vs.length j)) (λi j k hi hj hk=>tr _ _ _ (fU hi) (fU hj) (fU hk)) (λi j hi hj=>as _ _ (fU hi) (fU hj)) (by omega)
  have cf:∀i∈(evT (λi j=>lt (cG b vs.length i) (cG b vs.length j)) (kas_sort vs.length)).toList,i<vs.length:=λi hi=>by simpa using c1.mem_iff.mp hi
  refine IS (ks:=ks) (kat_snds tw har) (by rw[PC,c1.length_eq,R8];exact fg) (by omega) hf k0 gk ga λh' c k1 k2 k3=>?_
  rw[De cf]at k2
  exact h _ h' c (Bc c1) (Be c2) k1 k2 k3
theorem Bg{f:Value}{P:PySem.Fin->Shared->Prop}(ho:s.heap.get? a=some (seqObj "list" vs.toArray n))(fg:vs.length<64)(J:Addr->Nat->List Value->Nat->Shared->Prop)(h0:∀(kS e1:Nat)(h':Heap),(∀x o,x≠a->s.heap.get? x=some o->h'.get? x=some o)->s.heap.objs.size<=kS->h'.get? a=some (seqObj "list" #[] e1)->h'.get? kS=some (seqObj "list" #[] 0)->J kS e1 [] 0 { s with heap:=h' })(fj:∀kS e1 ks e s',J kS e1 ks e s'->kS≠a/\s'.heap.get? a=some (seqObj "list" #[] e1)/\s'.heap.get? kS=some (seqObj "list" ks.toArray e))(turn:∀kS e1 ks e s' x,vs[ks.length]?=some x->J kS e1 ks e s'->wpAny (model prog w) A (call f [x]) (λv df=>df.heap.get? kS=some (seqObj "list" ks.toArray e)/\∀(h':Heap) e',Ra kS df.heap h'->h'.get? kS=some (seqObj "list" (ks++[v]).toArray e')->J kS e1 (ks++[v]) e' { df with heap:=h' }) (λ_ _=>False) s')(fin:∀kS e1 ks e s',ks.length=vs.length->J kS e1 ks e s'->∃lt:Nat->Nat->Bool,(∀i j k,i<vs.length->j<vs.length->k<vs.length->lt j i=false->lt k j=false->lt k i=false)/\(∀i j,i<vs.length->j<vs.length->lt i j=true->lt j i=false)/\
   (2<=vs.length->∀(Q:SortKind->Shared->Prop) E',Q κ s'->wpAny (model prog w) A (keyKind' ks.toArray) Q E' s')/\
   (∀i j,i<vs.length->j<vs.length->∀Q:Bool->Shared->Prop,Q (lt i j) s'->wpAny (model prog w) A (keyLt' κ (ks.getD i P7) (ks.getD j P7)) Q (λ_ _=>False) s')/\
   ∀(p:List Nat)(h':Heap)(c:Nat),p.Perm (Qi vs.length)->p.Pairwise (λi j=>(if b then lt i j else lt j i)=false)->(∀x o,x≠a->x≠kS->s'.heap.get? x=some o->h'.get? x=some o)->
   h'.get? a=some (seqObj "list" (p.map λi=>vs.getD i P7).toArray c)->(∃o,h'.get? kS=some o)->P (.done (.ret .none)) { s' with heap:=h' }):
  wpAny (model prog w) A (ksk_tree a f b) P E s:=by
 have ha:a<s.heap.objs.size:=PU ho;have w1:=Qg s.heap a (Qj λ_=>(#[]:Array Value));obtain⟨e1,e8⟩:∃e1,(s.heap.update a (Qj λ_=>(#[]:Array Value))).get? a=some (seqObj "list" #[] e1):=⟨_,SB ho λ_=>#[]⟩;unfold ksk_tree;refine Pi (listItems_at ho rfl (Pi (RX ho rfl ?_ (by rw[PJ,Qt];omega) (Qd _))));refine Pi (seqEpoch_at e8 rfl (Pi (wpAny_newTuple ?_ (by show vs.length<=_;rw[Qt];omega))));refine Pi (wpAny_newList (QZ ?_) (Qd _));have zk:((s.heap.update a (Qj λ_=>(#[]:Array Value))).push (seqObj "tuple" vs.toArray 0)).objs.size=s.heap.objs.size+1:=by rw[size_push',SZ]
 have J0:=h0 ((s.heap.update a (Qj λ_=>(#[]:Array Value))).push (seqObj "tuple" vs.toArray 0)).objs.size e1 (((s.heap.update a (Qj λ_=>(#[]:Array Value))).push (seqObj "tuple" vs.toArray 0)).push (seqObj "list" #[] 0))
  (λx o hx q=>PB _ (PB _ ((w1.2 x hx).trans q))) (by rw[zk];exact Q9 _) (PB _ (PB _ e8)) (PR _ rfl)
 show wpAny (model prog w) A (ksk_rest a f b vs.toArray e1 (.ref ((s.heap.update a (Qj λ_=>(#[]:Array Value))).push (seqObj "tuple" vs.toArray 0)).objs.size)) P E { s with heap:=((s.heap.update a (Qj λ_=>(#[]:Array Value))).push (seqObj "tuple" vs.toArray 0)).push (seqObj "list" #[] 0) }
 generalize ((s.heap.update a (Qj λ_=>(#[]:Array Value))).push (seqObj "tuple" vs.toArray 0)).objs.size=kS at J0
 revert J0
 generalize ({ s with heap:=((s.heap.update a (Qj λ_=>(#[]:Array Value))).push (seqObj "tuple" vs.toArray 0)).push (seqObj "list" #[] 0) }:Shared)=s0;intro J0;unfold ksk_rest;refine Pi (S6 ?_)
 first
  |rw[List.forIn_toArray]
  |(rw[<-Array.forIn_toList];simp only[List.toList_toArray])
 refine Pi (ksk_fold (λi s'=>∃ks e,ks.length=i/\J kS e1 ks e s') vs 0 s0 ⟨[],0,rfl,J0⟩ ?step ?done)
 case step=>
  rintro j x s' hx ⟨ks,e,hl,hJ⟩;have hj:j<vs.length:=(Pv.mp hx).1;have gf:ks.length=j:=by omega
  refine Pi (SK (RB (turn kS e1 ks e s' x (by rw[gf];exact hx) hJ) (λv df q=>?_) λ_ _ z=>z.elim));obtain⟨gk,OQ⟩:=q
  try dsimp only
  have w2:=Qg df.heap kS (Qj (·.push v));obtain⟨c2,d0⟩:∃c2,(df.heap.update kS (Qj (·.push v))).get? kS=some (seqObj "list" (ks.toArray.push v) c2):=⟨_,SB gk (·.push v)⟩;refine Pi (RX gk rfl ?_ (by rw[PJ,Qt];omega) (Qb (Nat.le_of_eq (Array.size_push ..)) (by rw[PJ,Qt];omega)));refine Px ⟨rfl,ks++[v],c2,by simp;omega,OQ _ c2 w2 ?_⟩;rw[d0];simp
 case done=>
  rintro s' ⟨ks,e,hl,hJ⟩;have gf:ks.length=vs.length:=by omega
  obtain⟨k0,ga,gk⟩:=fj kS e1 ks e s' hJ;obtain⟨lt,tr,as,hk,ao,h⟩:=fin kS e1 ks e s' gf hJ
  try dsimp only
  refine Pi (listItems_at gk rfl ?_);exact O0 (κ:=κ) lt gf fg k0 tr as gk ga hk ao h
end
open PySem PySem.Spec PyProof.Rows PySem.SeqAt
inductive PV where
 |non|bl (b:Bool)|int (i:Int)|str (x:Str)|tup (xs:List PV)|ref (n:Nat)|ty (n:String)|fl (xs:List PV)
mutual
def PV.beq:PV->PV->Bool
 |.non,.non=>true
 |.bl a,.bl b=>a == b
 |.int a,.int b=>a == b
 |.str a,.str b=>a == b
 |.tup a,.tup b=>PV.beqs a b
 |.ref a,.ref b=>a == b
 |.ty a,.ty b=>a == b
 |.fl a,.fl b=>PV.beqs a b
 |_,_=>false
def PV.beqs:List PV->List PV->Bool
 |[],[]=>true
 |x::xs,y::ys=>PV.beq x y&&PV.beqs xs ys
 |_,_=>false
end
mutual
theorem PV.beq_self:∀x:PV,PV.beq x x=true
 |.non=>rfl
 |.bl a=>by simp[PV.beq]
 |.int a=>by simp[PV.beq]
 |.str a=>by simp[PV.beq]
 |.tup a=>by simp only[PV.beq];exact PV.beqs_self a
 |.ref a=>by simp[PV.beq]
 |.ty a=>by simp[PV.beq]
 |.fl a=>by simp only[PV.beq];exact PV.beqs_self a
theorem PV.beqs_self:∀x:List PV,PV.beqs x x=true
 |[]=>rfl
 |x::xs=>by simp only[PV.beqs,PV.beq_self x,PV.beqs_self xs,Bool.and_self]
end
mutual
theorem PV.beq_eq:∀{x y:PV},PV.beq x y=true->x=y
 |.non,y,h=>by cases y <;> first|rfl|(simp[PV.beq]at h)
 |.bl a,y,h=>by cases y <;> first|(simp[PV.beq]at h;rw[h])|(simp[PV.beq]at h)
 |.int a,y,h=>by cases y <;> first|(simp[PV.beq]at h;rw[h])|(simp[PV.beq]at h)
 |.str a,y,h=>by cases y <;> first|(simp[PV.beq]at h;rw[h])|(simp[PV.beq]at h)
 |.tup a,y,h=>by
  cases y with
  |tup b=>simp only[PV.beq]at h;rw[PV.beqs_eq h]
  |_=>simp[PV.beq]at h
 |.ref a,y,h=>by cases y <;> first|(simp[PV.beq]at h;rw[h])|(simp[PV.beq]at h)
 |.ty a,y,h=>by cases y <;> first|(simp[PV.beq]at h;rw[h])|(simp[PV.beq]at h)
 |.fl a,y,h=>by
  cases y with
  |fl b=>simp only[PV.beq]at h;rw[PV.beqs_eq h]
  |_=>simp[PV.beq]at h
theorem PV.beqs_eq:∀{x y:List PV},PV.beqs x y=true->x=y
 |[],y,h=>by cases y <;> first|rfl|(simp[PV.beqs]at h)
 |x::xs,y,h=>by
  cases y with
  |nil=>simp[PV.beqs]at h
  |cons y ys=>
   simp only[PV.beqs,PZ]at h;rw[PV.beq_eq h.1,PV.beqs_eq h.2]
end
instance:DecidableEq PV:=λx y=>match h:PV.beq x y with
 |true=>isTrue (PV.beq_eq h)
 |false=>isFalse λe=>by rw[e,PV.beq_self]at h;cases h
def PV.ky:Nat->PV->Bool
 |_,.int _=>true
 |_,.str _=>true
 |n+1,.tup xs=>xs.all (PV.ky n)
 |_,_=>false
section
variable(w:World)
mutual
def hsh:PV->Int
 |.int i=>J2 w (.inl i)
 |.str x=>J2 w (.inr x)
 |.tup xs=>reduceHash (QO (rT xs))
 |_=>0
def rT:List PV->List Int
 |[]=>[]
 |x::xs=>hsh x::rT xs
end
end
mutual
def drw:PV->Nat
 |.tup xs=>Aj xs+1
 |_=>1
def Aj:List PV->Nat
 |[]=>0
 |x::xs=>drw x+Aj xs
end
mutual
/-- the raw value is the key -/
def HR(h:Heap):PV->Value->Prop
 |.int i,v=>∃t,v=.int i t
 |.str x,v=>∃t,v=.str x t
 |.tup ps,v=>∃a its,v=.ref a/\IsTup h a its.toArray/\HRs h ps its
 |_,_=>False
def HRs(h:Heap):List PV->List Value->Prop
 |[],[]=>True
 |p::ps,v::vs=>HR h p v/\HRs h ps vs
 |[],_::_=>False
 |_::_,[]=>False
end
theorem HRs.length{h:Heap}:∀{ps:List PV}{vs:List Value},HRs h ps vs->ps.length=vs.length
 |[],[],_=>rfl
 |_::_,_::_,r=>congrArg (·+1) (HRs.length r.2)
 |[],_::_,r=>r.elim
 |_::_,[],r=>r.elim
theorem HRs.at{h:Heap}:∀{ps:List PV}{vs:List Value}{j:Nat}{p:PV},HRs h ps vs->ps[j]?=some p->∃v,vs[j]?=some v/\HR h p v
 |[],[],_,_,_,e=>by simp at e
 |q::_,v::_,0,p,r,e=>by
  have:q=p:=by simpa using e
  subst this;exact⟨v,rfl,r.1⟩
 |_::ps,_::vs,j+1,p,r,e=>by
  obtain⟨v,h1,h2⟩:=HRs.at (ps:=ps) (vs:=vs) (j:=j) (p:=p) r.2 (by simpa using e)
  exact⟨v,by simpa using h1,h2⟩
 |[],_::_,_,_,r,_=>r.elim
 |_::_,[],_,_,r,_=>r.elim
theorem Df{h:Heap}{x y:Array Value}(p:IsTup h a x)(q:IsTup h a y):x=y:=by
 obtain⟨o,ho,_,n,hd⟩:=p;obtain⟨o',dr,_,n',cg⟩:=q;obtain rfl:o=o':=P4 (ho.symm.trans dr);rw[hd]at cg;injection cg
mutual
theorem HR.one{h:Heap}:∀{p q:PV}{v:Value},HR h p v->HR h q v->p=q
 |.int i,q,v,r,r'=>by
  obtain⟨t,rfl⟩:=r;cases q with
  |int j=>obtain⟨t',e⟩:=r';injection e with e;rw[e]
  |str j=>obtain⟨t',e⟩:=r';cases e
  |tup j=>obtain⟨_,_,e,_⟩:=r';cases e
  |_=>exact r'.elim
 |.str i,q,v,r,r'=>by
  obtain⟨t,rfl⟩:=r;cases q with
  |int j=>obtain⟨t',e⟩:=r';cases e
  |str j=>obtain⟨t',e⟩:=r';injection e with e;rw[e]
  |tup j=>obtain⟨_,_,e,_⟩:=r';cases e
  |_=>exact r'.elim
 |.tup ps,q,v,r,r'=>by
  obtain⟨a,its,rfl,p,rs⟩:=r;cases q with
  |int j=>obtain⟨t',e⟩:=r';cases e
  |str j=>obtain⟨t',e⟩:=r';cases e
  |tup qs=>
   obtain⟨b,its',e,p',p7⟩:=r';cases e
   have:its=its':=by simpa using congrArg Array.toList (Df p p')
   subst this;rw[HRs.one rs p7]
  |_=>exact r'.elim
 |.non,_,_,r,_=>r.elim
 |.bl _,_,_,r,_=>r.elim
 |.ref _,_,_,r,_=>r.elim
 |.ty _,_,_,r,_=>r.elim
 |.fl _,_,_,r,_=>r.elim
theorem HRs.one{h:Heap}:∀{ps qs:List PV}{vs:List Value},HRs h ps vs->HRs h qs vs->ps=qs
 |[],[],[],_,_=>rfl
 |p::ps,q::qs,v::vs,r,r'=>by rw[HR.one r.1 r'.1,HRs.one r.2 r'.2]
 |[],_::_,[],_,r=>r.elim
 |[],_,_::_,r,_=>r.elim
 |_::_,_,[],r,_=>r.elim
 |_::_,[],_::_,_,r=>r.elim
end
theorem Bh{h:Heap}{d:Addr}{o:Obj}{es ep}{x:Array Value}(p:IsTup h a x)(ho:h.get? d=some o)(hd:o.data=.dict es ep)(hs:Ra d h h'):IsTup h' a x:=by
 obtain⟨q,hq,hc,n,l0⟩:=p;have ne:a≠d:=by
  rintro rfl;obtain rfl:q=o:=P4 (hq.symm.trans ho);rw[hd]at l0;cases l0
 exact⟨q,(hs.2 a ne).trans hq,hc,n,l0⟩
mutual
theorem HR.keep{h h':Heap}(k:∀a x,IsTup h a x->IsTup h' a x):∀{p:PV}{v:Value},HR h p v->HR h' p v
 |.int i,v,r=>r
 |.str i,v,r=>r
 |.tup ps,v,⟨a,its,e,p,rs⟩=>⟨a,its,e,k _ _ p,HRs.keep k rs⟩
 |.non,_,r=>r.elim
 |.bl _,_,r=>r.elim
 |.ref _,_,r=>r.elim
 |.ty _,_,r=>r.elim
 |.fl _,_,r=>r.elim
theorem HRs.keep{h h':Heap}(k:∀a x,IsTup h a x->IsTup h' a x):∀{ps:List PV}{vs:List Value},HRs h ps vs->HRs h' ps vs
 |[],[],_=>trivial
 |_::_,_::_,r=>⟨HR.keep k r.1,HRs.keep k r.2⟩
 |[],_::_,r=>r.elim
 |_::_,[],r=>r.elim
end
theorem ED:∀(n:Nat){A:Around}{E:Value->Shared->Prop}{s:Shared}{p:PV}{v:Value}{Q:Int->Shared->Prop},p.ky n=true->A.units+n<cLine->HR s.heap p v->Q (hsh w p) { s with toks:=s.toks+drw p }->
  wpAny (model prog w) A (pyHash v) Q E s:=by
 intro n
 induction n with
 |zero=>
  intro A E s p v Q hk hu r h;cases p with
  |int i=>obtain⟨t,rfl⟩:=r;exact wpAny_pyHash_int h
  |str i=>obtain⟨t,rfl⟩:=r;exact wpAny_pyHash_str h
  |_=>cases hk
 |succ n ih=>
  intro A E s p v Q hk hu r h;cases p with
  |int i=>obtain⟨t,rfl⟩:=r;exact wpAny_pyHash_int h
  |str i=>obtain⟨t,rfl⟩:=r;exact wpAny_pyHash_str h
  |tup ps=>
   obtain⟨a,its,rfl,⟨o,ho,hc,m,hd⟩,rs⟩:=r;have j6:∀q∈ps,q.ky n=true:=Qf.mp hk;have hT:s.TypeIs (.ref a) "tuple" := ⟨o,ho,hc⟩;unfold pyHash;unfold pyHashByItsType;refine Pi (wpAny_cRoomFor_or (.inr (show A.units<cLine by omega)) (Pi (R6 hT F.slot_tuple_hash.lookup ?_)))
   show wpAny _ _ (if((some (Value.builtin "tuple.__hash__"):Option Value) == some P7)=true then _ else _) Q E s
   rw[if_neg (show ¬ _ from by rw[beq_builtin_none];decide)]
   refine Pi (R6 hT F.slot_tuple_hash.lookup (show wpAny _ _ (callSpecialIfBoundUnlessNone? (.ref a) "__hash__" _ >>= _) Q E s from ?_))
   refine Pi (wpAny_callSpecialIfBoundUnlessNone?_slot hT F.slot_tuple_hash (Qy F.slot_tuple_hash hT F.entry_tuple_hash (show wpAny _ _ (SL (.ref a) >>= _) _ _ s from ?_) (F.args_tuple_hash_1 _)))
   refine Pi (wpAny_tupleItemsOf ho hd (Pi ?_));rw[<-Array.forIn_toList];refine wpAny_forIn_list _ (λrest (b:Array Int) s'=>∃left,HRs s.heap left rest/\(∀q∈left,q.ky n=true)/\b.toList++rT w left=rT w ps/\s'.heap=s.heap/\s'={ s with toks:=s'.toks }/\s'.toks+Aj left=s.toks+Aj ps) _ ?turn ?stop _ _ ⟨ps,rs,j6,rfl,rfl,rfl,rfl⟩
   case turn=>
    rintro x rest b s' ⟨left,rl,kl,eb,eh,es,et⟩;cases left with
    |nil=>exact rl.elim
    |cons q left=>
     have r1:HR s'.heap q x:=by rw[eh];exact rl.1
     refine Pi (ih (kl q PN) (show A.units+1+n<cLine by omega) r1 (Px ?_));refine⟨left,rl.2,λz hz=>kl z (PK _ hz),?_,eh,?_,?_⟩
     ·rw[<-eb];simp[rT]
     ·rw[es]
     ·rw[<-et]
      show s'.toks+drw q+Aj left=s'.toks+(drw q+Aj left)
      omega
   case stop=>
    rintro b s' ⟨left,rl,kl,eb,eh,es,et⟩;cases left with
    |cons q left=>exact rl.elim
    |nil=>
     have Pe:b.toList=rT w ps:=by rw[<-eb];simp[rT]
     have OM:s'.toks=s.toks+Aj ps:=et
     show wpAny _ _ (retInt (QO b.toList)) _ _ _
     rw[Pe,es];refine wpAny_ret_mkInt ?_
     show wpAny _ _ (if(decide (-(2:Int) ^ 63<=QO (rT w ps))&&decide (QO (rT w ps)<2 ^ 63))=true then _ else _) Q E _
     have h':Q (reduceHash (QO (rT w ps))) { s with toks:=s.toks+(Aj ps+1) }:=h;unfold reduceHash at h';rw[OM]
     by_cases hr:(decide (-(2:Int) ^ 63<=QO (rT w ps))&&decide (QO (rT w ps)<2 ^ 63))=true
     ·rw[if_pos hr]at h'⊢;exact Px (by simpa[Nat.add_assoc] using h')
     ·rw[if_neg hr]at h'⊢;exact Pi (S6 (Px (by simpa[Nat.add_assoc] using h')))
  |_=>cases hk
theorem JZ:∀(n:Nat){A:Around}{s:Shared}{p q:PV}{v u:Value},p.ky n=true->q.ky n=true->A.units+n<cLine->HR s.heap p v->HR s.heap q u->RcAt A s v u (decide (p=q)):=by
 intro n
 induction n with
 |zero=>
  intro A s p q v u hp hq hu r r';cases p with
  |int i=>
   obtain⟨t,rfl⟩:=r;cases q with
   |int j=>obtain⟨t',rfl⟩:=r';have:=RcAt.int_int (A:=A) (s:=s) i t j t';rwa[show decide (PV.int i=PV.int j)=(i == j) by simp[SD]]
   |str j=>obtain⟨t',rfl⟩:=r';exact RcAt.int_str i t j t'
   |_=>cases hq
  |str i=>
   obtain⟨t,rfl⟩:=r;cases q with
   |int j=>obtain⟨t',rfl⟩:=r';exact RcAt.str_int i t j t'
   |str j=>obtain⟨t',rfl⟩:=r';have:=RcAt.str_str (A:=A) (s:=s) i t j t';rwa[show decide (PV.str i=PV.str j)=(i == j) by simp[SD]]
   |_=>cases hq
  |_=>cases hp
 |succ n ih=>
  intro A s p q v u hp hq hu r r';cases p with
  |int i=>
   obtain⟨t,rfl⟩:=r;cases q with
   |int j=>obtain⟨t',rfl⟩:=r';have:=RcAt.int_int (A:=A) (s:=s) i t j t';rwa[show decide (PV.int i=PV.int j)=(i == j) by simp[SD]]
   |str j=>obtain⟨t',rfl⟩:=r';exact RcAt.int_str i t j t'
   |tup js=>obtain⟨b,its,rfl,p',_⟩:=r';exact RcAt.int_tuple i t p' (by omega)
   |_=>cases hq
  |str i=>
   obtain⟨t,rfl⟩:=r;cases q with
   |int j=>obtain⟨t',rfl⟩:=r';exact RcAt.str_int i t j t'
   |str j=>obtain⟨t',rfl⟩:=r';have:=RcAt.str_str (A:=A) (s:=s) i t j t';rwa[show decide (PV.str i=PV.str j)=(i == j) by simp[SD]]
   |tup js=>obtain⟨b,its,rfl,p',_⟩:=r';exact RcAt.str_tuple i t p' (by omega)
   |_=>cases hq
  |tup ps=>
   obtain⟨a,its,rfl,ta,rs⟩:=r;cases q with
   |int j=>obtain⟨t',rfl⟩:=r';exact RcAt.tuple_int j t' ta (by omega)
   |str j=>obtain⟨t',rfl⟩:=r';exact RcAt.tuple_str j t' ta (by omega)
   |tup qs=>
    obtain⟨b,its',rfl,tb,p7⟩:=r';have kp:∀z∈ps,z.ky n=true:=Qf.mp hp;have kq:∀z∈qs,z.ky n=true:=Qf.mp hq;have l1:=rs.length;have l2:=p7.length;have key:=RcAt.tuples (A:=A) (e:=λj=>match ps[j]?,qs[j]? with|some x,some y=>decide (x=y)|_,_=>false) ta tb (by omega) (λj h1 h2=>by
     have iq:j<ps.length:=by simp at h1;omega
     have dg:j<qs.length:=by simp at h2;omega
     have g1:ps[j]?=some ps[j]:=by simp[iq]
     have g2:qs[j]?=some qs[j]:=by simp[dg]
     obtain⟨xu,jd,cy⟩:=rs.at g1;obtain⟨yu,iu,bz⟩:=p7.at g2;have e1:its.toArray[j]=xu:=by simpa using(Pv.mp jd).2
     have e2:its'.toArray[j]=yu:=by simpa using(Pv.mp iu).2
     rw[e1,e2];simp only[g1,g2];refine iS (ih (kp _ (List.getElem_mem iq)) (kq _ (List.getElem_mem dg)) (show A.units+1+n<cLine by omega) cy bz) (λev=>?_) (λf t e=>?_)
     ·subst ev;rw[HR.one cy bz];exact decide_eq_true rfl
     ·subst e;generalize ps[j]=z at cy;cases z with
      |int i=>obtain⟨_,e⟩:=cy;cases e
      |str i=>obtain⟨_,e⟩:=cy;cases e
      |tup i=>obtain⟨_,_,e,_⟩:=cy;cases e
      |_=>exact cy.elim)
    have sz:((Qi (min its.toArray.size its'.toArray.size)).all (λj=>match ps[j]?,qs[j]? with|some x,some y=>decide (x=y)|_,_=>false)&&its.toArray.size == its'.toArray.size)=decide (PV.tup ps=PV.tup qs):=by
     have a1:its.toArray.size=ps.length:=by simp;omega
     have a2:its'.toArray.size=qs.length:=by simp;omega
     rw[a1,a2,RR];simp only[PZ,Qf,List.mem_range,beq_iff_eq,decide_eq_true_eq,PV.tup.injEq];constructor
     ·rintro⟨hall,hlen⟩;apply List.ext_getElem hlen;intro i hi ay;have:=hall i (by omega);simpa[hi,ay] using this
     ·rintro rfl;refine⟨λx hx=>?_,rfl⟩;have:x<ps.length:=by omega
      simp[this]
    rw[<-sz];exact key
   |_=>cases hq
  |_=>cases hp
variable{p:PV}
theorem HR.noflt{h:Heap}{v:Value}(r:HR h p v):∀f t,v≠.float f t:=λf t e=>by
 subst e;cases p with
 |int i=>obtain⟨_,e⟩:=r;cases e
 |str i=>obtain⟨_,e⟩:=r;cases e
 |tup i=>obtain⟨_,_,e,_⟩:=r;cases e
 |_=>exact r.elim
theorem K0{q:PV}{v:Value}(hp:p.ky n=true)(hq:q.ky n=true)(hu:A.units+n<cLine)(r:HR s.heap p v)(r':HR s.heap q u):EqAt A s v u (decide (p=q)):=
 iS (JZ n hp hq hu r r') (λev=>by subst ev;rw[HR.one r r'];exact decide_eq_true rfl) r.noflt
theorem Dg:∀(n m:Nat){A:Around}{E:Value->Shared->Prop}{s:Shared}{p:PV}{v:Value}{Q:Bool->Shared->Prop},p.ky n=true->n<=m->HR s.heap p v->Q true s->wpAny (model prog w) A (eqIsQuiet m v) Q E s:=by
 intro n
 induction n with
 |zero=>
  intro m A E s p v Q hk hm r h;cases p with
  |int i=>obtain⟨t,rfl⟩:=r;rw[eqIsQuiet_byValue _ rfl];exact Px h
  |str i=>obtain⟨t,rfl⟩:=r;rw[eqIsQuiet_byValue _ rfl];exact Px h
  |_=>cases hk
 |succ n ih=>
  intro m A E s p v Q hk hm r h;cases p with
  |int i=>obtain⟨t,rfl⟩:=r;rw[eqIsQuiet_byValue _ rfl];exact Px h
  |str i=>obtain⟨t,rfl⟩:=r;rw[eqIsQuiet_byValue _ rfl];exact Px h
  |tup ps=>
   obtain⟨a,its,rfl,⟨o,ho,hc,m',hd⟩,rs⟩:=r;have j6:∀q∈ps,q.ky n=true:=Qf.mp hk;have hT:s.TypeIs (.ref a) "tuple" := ⟨o,ho,hc⟩;obtain⟨m,rfl⟩:∃j,m=j+1:=⟨m-1,by omega⟩;unfold eqIsQuiet;refine Pi (R6 hT F.slot_tuple_eq.lookup (show wpAny _ _ (isInstance (.ref a) (.type "tuple") >>= _) _ _ s from ?_))
   refine Pi (S0 hT isSubtype_tuple_tuple ?_);simp only[Bool.not_true,Qh,if_false];refine Pi (wpAny_seqItems ho hd (Pi (show wpAny _ _ (forIn its.toArray _ _) _ _ s from ?_)));rw[<-Array.forIn_toList]
   refine wpAny_forIn_list _ (λrest r s'=>r.1=none/\s'=s/\∃left,HRs s.heap left rest/\∀q∈left,q.ky n=true) _ ?_ ?_ _ _ ⟨rfl,rfl,ps,rs,j6⟩
   ·rintro v rest r s' ⟨hr,rfl,left,rl,kl⟩;cases left with
    |nil=>exact rl.elim
    |cons q left=>
     refine Pi (ih m (kl q PN) (by omega) rl.1 ?_);simp only[Bool.not_true,Qh,if_false];exact Px ⟨rfl,rfl,left,rl.2,λz hz=>kl z (PK _ hz)⟩
   ·rintro⟨r1,r2⟩ s' ⟨hr,rfl,_⟩;simp only at hr;subst hr;exact Px h
  |_=>cases hk
def rH(prog:Program)(w:World):HeapKind prog w PV where
 is:=λh p a=>p.ky 6=true/\HR h p (.ref a)
 hash:=hsh w
 draws:=drw
 room:=λA=>A.units+6<cLine
 inj:=λx y=>HR.one x.2 y.2
 keeps:=λx ho hd hs=>⟨x.1,HR.keep (λa it p=>Bh p ho hd hs) x.2⟩
 pyHash:=λhu x h=>ED 6 x.1 hu x.2 h
 eqBool:=λhu x y h=>K0 x.1 y.1 hu x.2 y.2 _ _ _ _ h
 quiet:=λx h=>Dg 6 8 x.1 (by omega) x.2 h
def dDO(w:World)(a:Addr)(ks:List (PV×Addr×V)):HO:=.ext λh=>ks.length<=PP/\(a == QG)=false/\∃xs:List (PV×Addr×Value),
 Paired (λ(p:PV×Addr×V)(q:PV×Addr×Value)=>p.1=q.1/\p.2.1=q.2.1/\RelV p.2.2 q.2.2) ks xs/\
 ∃o es ep,h.get? a=some o/\o.ExactDict/\o.data=.dict es ep/\es.toList=xs.map (λx=>(⟨hsh w x.1,.ref x.2.1,x.2.2⟩:RU))/\(xs.map (·.1)).Nodup
def EE(kd:Nat)(v d:Addr):HO:=.ext λh=>match kd with
 |0=>h.IsItemsView v d
 |1=>h.IsValuesView v d
 |_=>∃o,h.get? v=some o/\o.cls=.type "dict_keys" /\ o.data=.fields #[.ref d]
open PySem PySem.Spec PyProof.Rows
inductive MO where
 |lst (xs:List PV)
 |dK (kvs:List (Key×PV))
 |ins (C:Str) (fs:List (Str×PV))
 |dD (kvs:List (PV×PV))
 |vw (kd d:Nat)
 |fz (o:MO)
abbrev PH:=List MO
abbrev Ev:=List (Option PV)
structure PX where
 cls:Str
 fs:List (Str×PV)
inductive Rs(α:Type) where
 |ok (a:α) (h:PH)
 |exc (x:PX) (h:PH)
 |bad
inductive Fl where
 |nx (δ:Ev) (h:PH)
 |rt (p:PV) (h:PH)
 |bk (δ:Ev) (h:PH)
 |ct (δ:Ev) (h:PH)
 |exc (x:PX) (h:PH)
 |bad
abbrev Me:=Ev->PH->Rs PV
abbrev Ms:=Ev->PH->Fl
abbrev Fn:=List PV->PH->Rs PV
def Rs.bind{α β:Type}(r:Rs α)(f:α->PH->Rs β):Rs β:=match r with
 |.ok a h=>f a h
 |.exc x h=>.exc x h
 |.bad=>.bad
@[simp]theorem Rs.bind_ok{α β:Type}(a:α)(h:PH)(f:α->PH->Rs β):(Rs.ok a h).bind f=f a h:=rfl
@[simp]theorem Rs.bind_exc{α β:Type}(x:PX)(h:PH)(f:α->PH->Rs β):(Rs.exc x h:Rs α).bind f=.exc x h:=rfl
@[simp]theorem Rs.bind_bad{α β:Type}(f:α->PH->Rs β):(Rs.bad:Rs α).bind f=.bad:=rfl
structure MC where
 K:Py
 cl:Str->Option Addr
 bs:List Str
 ex:List Addr->Hp->PX->Prop
 w:World
def SqF(K:Py)(H:Hp)(a:Addr)(xs:List V):Prop:=
 (∃o,H a=some (.frz o (.lst xs)))\/
  ∃(o:Obj)(its:Array Value)(n:Nat),K.lookup a=some o/\o.cls=.type "list" /\ o.dict=none/\o.data=.seq its n/\its.size<=PP/\aI xs its.toList
theorem SqF.sq{xs:List V}(h:SqF K H a xs):SqL K H a xs:=by
 rcases h with⟨o,h⟩|h
 ·exact .inl (.inr ⟨o,h⟩)
 ·exact .inr h
def Kp(H H':Hp):Prop:=iR H H'/\∀a o u,H a=some (.frz o u)->H' a=some (.frz o u)
theorem Kp.refl(H:Hp):Kp H H:=⟨iR.refl H,λ_ _ _ h=>h⟩
theorem Kp.trans(a:Kp H H1)(b:Kp H1 H2):Kp H H2:=⟨a.1.trans b.1,λc o u h=>b.2 c o u (a.2 c o u h)⟩
theorem Kp.same(s:A7 H H'):Kp H H':=⟨iR.same s,λ_ _ _ h=>s _ _ h⟩
theorem Kp.new(h:H a=none):Kp H (upd H a o):=Kp.same (A7.upd h)
theorem Kp.upd{p:Addr}(h:rE (H p)):Kp H (upd H p o):=⟨iR.upd h,λa ob u q=>by
 have ne:a≠p:=by
  rintro rfl;rw[q]at h;exact h
 rw[aH ne];exact q⟩
theorem Kp.lst{H:Hp}{p:Addr}{o:HO}{xs:List V}(h:H p=some (.lst xs)):Kp H (L2.upd H p o):=Kp.upd (by rw[h];trivial)
theorem Kp.dK{H:Hp}{p:Addr}{o:HO}{xs:List (Key×V)}(h:H p=some (.dK xs)):Kp H (L2.upd H p o):=Kp.upd (by rw[h];trivial)
theorem Kp.sq{xs:List V}(t:Kp H H')(h:SqT K H a xs):SqT K H' a xs:=t.1.sq h
theorem Kp.sf{xs:List V}(t:Kp H H')(h:SqF K H a xs):SqF K H' a xs:=by
 rcases h with⟨o,h⟩|h
 ·exact .inl ⟨o,t.2 _ _ _ h⟩
 ·exact .inr h
section
variable(C:MC)(φ:List Addr)(H:Hp)
mutual
def RV:PV->V->Prop
 |.non,v=>v=.non
 |.bl b,v=>v=.bl b
 |.int i,v=>v=.int i
 |.str x,v=>v=.str x
 |.ty n,v=>v=.ty n
 |.tup ps,v=>∃a vs,v=.ref a/\SqT C.K H a vs/\RVs ps vs
 |.ref n,v=>∃a,v=.ref a/\φ[n]?=some a
 |.fl ps,v=>∃a vs,v=.ref a/\SqF C.K H a vs/\RVs ps vs
def RVs:List PV->List V->Prop
 |[],[]=>True
 |p::ps,v::vs=>RV p v/\RVs ps vs
 |[],_::_=>False
 |_::_,[]=>False
end
def RKv{κ:Type}:List (κ×PV)->List (κ×V)->Prop:=Paired λp q=>p.1=q.1/\RV C φ H p.2 q.2
def RKd:List (PV×PV)->List (PV×Addr×V)->Prop:=Paired λp q=>p.1=q.1/\p.1.ky 6=true/\RV C φ H p.1 (.ref q.2.1)/\RV C φ H p.2 q.2.2
def RO(a:Addr):MO->Prop
 |.lst ps=>∃vs,H a=some (.lst vs)/\RVs C φ H ps vs
 |.dK kvs=>∃ks,H a=some (.dK ks)/\RKv C φ H kvs ks
 |.ins n fs=>∃c dx ks,C.cl n=some c/\H a=some (.ins c dx ks)/\RKv C φ H fs ks
 |.dD kvs=>∃ks,H a=some (dDO C.w a ks)/\RKd C φ H kvs ks
 |.vw kd d=>∃b,φ[d]?=some b/\H a=some (EE kd a b)
 |.fz (.dK kvs)=>∃ob ks,H a=some (.frz ob (.dK ks))/\RKv C φ H kvs ks
 |.fz (.dD kvs)=>∃ob ks,H a=some (.frz ob (dDO C.w a ks))/\RKd C φ H kvs ks
 |.fz _=>False
structure RH(h:PH):Prop where
 len:φ.length=h.length
 nd:φ.Nodup
 at':∀(n:Nat)(a:Addr)(o:MO),φ[n]?=some a->h[n]?=some o->RO C φ H a o
def RE(δ:Ev)(σ:St):Prop:=δ.length=σ.length/\∀(i:Nat)(p:PV),δ[i]?=some (some p)->∃v,σ[i]?=some (some v)/\RV C φ H p v
end
theorem fP{α:Type}{l l':List α}(p:l<+:l'){a:α}(h:l[n]?=some a):l'[n]?=some a:=by
 obtain⟨t,rfl⟩:=p;have:=(Pv.mp h).1;rw[QC this];exact h
def Kq(H H':Hp):Prop:=iR H H'/\∀a o xs,H a=some (.frz o (.lst xs))->H' a=some (.frz o (.lst xs))
theorem Kp.q(t:Kp H H'):Kq H H':=⟨t.1,λa o xs h=>t.2 a o _ h⟩
theorem Kq.sq{xs:List V}(t:Kq H H')(h:SqT K H a xs):SqT K H' a xs:=t.1.sq h
theorem Kq.sf{xs:List V}(t:Kq H H')(h:SqF K H a xs):SqF K H' a xs:=by
 rcases h with⟨o,h⟩|h
 ·exact .inl ⟨o,t.2 _ _ _ h⟩
 ·exact .inr h
mutual
theorem RV.monoQ(p:φ<+:φ')(t:Kq H H'):∀{x:PV}{v:V},RV C φ H x v->RV C φ' H' x v
 |.non,_,h=>h
 |.bl _,_,h=>h
 |.int _,_,h=>h
 |.str _,_,h=>h
 |.ty _,_,h=>h
 |.tup _,_,⟨a,vs,e,q,r⟩=>⟨a,vs,e,t.sq q,RVs.monoQ p t r⟩
 |.ref _,_,⟨a,e,q⟩=>⟨a,e,fP p q⟩
 |.fl _,_,⟨a,vs,e,q,r⟩=>⟨a,vs,e,t.sf q,RVs.monoQ p t r⟩
theorem RVs.monoQ(p:φ<+:φ')(t:Kq H H'):∀{xs:List PV}{vs:List V},RVs C φ H xs vs->RVs C φ' H' xs vs
 |[],[],_=>trivial
 |_::_,_::_,⟨h,r⟩=>⟨RV.monoQ p t h,RVs.monoQ p t r⟩
 |[],_::_,h=>h.elim
 |_::_,[],h=>h.elim
end
variable{C:MC}{φ φ':List Addr}
theorem RV.mono(p:φ<+:φ')(t:Kp H H'){x:PV}(h:RV C φ H x v):RV C φ' H' x v:=RV.monoQ p t.q h
variable{xs:List PV}
theorem RVs.mono(p:φ<+:φ')(t:Kp H H')(h:RVs C φ H xs vs):RVs C φ' H' xs vs:=RVs.monoQ p t.q h
theorem RVs.length:∀{xs:List PV}{vs:List V},RVs C φ H xs vs->xs.length=vs.length
 |[],[],_=>rfl
 |_::_,_::_,⟨_,r⟩=>by simp[RVs.length r]
 |[],_::_,h=>h.elim
 |_::_,[],h=>h.elim
theorem RVs.get:∀{xs:List PV}{vs:List V}{i:Nat}{v:V},RVs C φ H xs vs->vs[i]?=some v->∃x,xs[i]?=some x/\RV C φ H x v
 |[],[],_,_,_,e=>by simp at e
 |x::_,w::_,0,v,⟨h,_⟩,e=>by
  have:w=v:=by simpa using e
  subst this;exact⟨x,rfl,h⟩
 |_::xs,_::vs,i+1,v,⟨_,r⟩,e=>by
  obtain⟨x,h1,h2⟩:=RVs.get (xs:=xs) (vs:=vs) (i:=i) (v:=v) r (by simpa using e)
  exact⟨x,by simpa using h1,h2⟩
 |[],_::_,_,_,h,_=>h.elim
 |_::_,[],_,_,h,_=>h.elim
theorem RVs.at:∀{xs:List PV}{vs:List V}{i:Nat}{x:PV},RVs C φ H xs vs->xs[i]?=some x->∃v,vs[i]?=some v/\RV C φ H x v
 |[],[],_,_,_,e=>by simp at e
 |x::_,w::_,0,x',⟨h,_⟩,e=>by
  have:x=x':=by simpa using e
  subst this;exact⟨w,rfl,h⟩
 |_::xs,_::vs,i+1,x,⟨_,r⟩,e=>by
  obtain⟨v,h1,h2⟩:=RVs.at (xs:=xs) (vs:=vs) (i:=i) (x:=x) r (by simpa using e)
  exact⟨v,by simpa using h1,h2⟩
 |[],_::_,_,_,h,_=>h.elim
 |_::_,[],_,_,h,_=>h.elim
theorem RVs.append:∀{xs ys:List PV}{vs us:List V},RVs C φ H xs vs->RVs C φ H ys us->RVs C φ H (xs++ys) (vs++us)
 |[],_,[],_,_,h=>h
 |_::_,_,_::_,_,⟨h,r⟩,h'=>⟨h,RVs.append r h'⟩
 |[],_,_::_,_,h,_=>h.elim
 |_::_,_,[],_,h,_=>h.elim
theorem RVs.snoc{x:PV}(r:RVs C φ H xs vs)(h:RV C φ H x v):RVs C φ H (xs++[x]) (vs++[v]):=r.append ⟨h,trivial⟩
theorem RVs.drop:∀{xs:List PV}{vs:List V}(n:Nat),RVs C φ H xs vs->RVs C φ H (xs.drop n) (vs.drop n)
 |_,_,0,h=>h
 |[],[],_+1,_=>trivial
 |_::_,_::_,n+1,⟨_,r⟩=>RVs.drop n r
 |[],_::_,_+1,h=>h.elim
 |_::_,[],_+1,h=>h.elim
theorem RVs.take:∀{xs:List PV}{vs:List V}(n:Nat),RVs C φ H xs vs->RVs C φ H (xs.take n) (vs.take n)
 |[],[],0,_=>trivial
 |_::_,_::_,0,_=>trivial
 |[],[],_+1,_=>trivial
 |_::_,_::_,n+1,⟨h,r⟩=>⟨h,RVs.take n r⟩
 |[],_::_,_,h=>h.elim
 |_::_,[],_,h=>h.elim
theorem RVs.set{x:PV}(h:RV C φ H x v):∀{xs:List PV}{vs:List V}(n:Nat),RVs C φ H xs vs->RVs C φ H (xs.set n x) (vs.set n v)
 |[],[],_,_=>trivial
 |_::_,_::_,0,⟨_,r⟩=>⟨h,r⟩
 |_::_,_::_,n+1,⟨q,r⟩=>⟨q,RVs.set h n r⟩
 |[],_::_,_,h=>h.elim
 |_::_,[],_,h=>h.elim
theorem RVs.reverse:∀{xs:List PV}{vs:List V},RVs C φ H xs vs->RVs C φ H xs.reverse vs.reverse
 |[],[],_=>trivial
 |_::_,_::_,⟨h,r⟩=>by simp only[List.reverse_cons];exact(RVs.reverse r).append ⟨h,trivial⟩
 |[],_::_,h=>h.elim
 |_::_,[],h=>h.elim
theorem RKv.monoQ{κ:Type}(p:φ<+:φ')(t:Kq H H'){x:List (κ×PV)}{v:List (κ×V)}(h:RKv C φ H x v):RKv C φ' H' x v:=Paired.mapP h λ_ _ q=>⟨q.1,q.2.monoQ p t⟩
theorem RKd.monoQ(p:φ<+:φ')(t:Kq H H'){x:List (PV×PV)}{v:List (PV×Addr×V)}(h:RKd C φ H x v):RKd C φ' H' x v:=Paired.mapP h λ_ _ q=>⟨q.1,q.2.1,q.2.2.1.monoQ p t,q.2.2.2.monoQ p t⟩
theorem RKv.mono{κ:Type}(p:φ<+:φ')(t:Kp H H'){x:List (κ×PV)}{v:List (κ×V)}(h:RKv C φ H x v):RKv C φ' H' x v:=Paired.mapP h λ_ _ q=>⟨q.1,q.2.mono p t⟩
theorem RKd.mono(p:φ<+:φ')(t:Kp H H'){x:List (PV×PV)}{v:List (PV×Addr×V)}(h:RKd C φ H x v):RKd C φ' H' x v:=Paired.mapP h λ_ _ q=>⟨q.1,q.2.1,q.2.2.1.mono p t,q.2.2.2.mono p t⟩
variable{δ:Ev}
theorem RE.mono(p:φ<+:φ')(t:Kp H H')(h:RE C φ H δ σ):RE C φ' H' δ σ:=⟨h.1,λi x e=>let ⟨v,q,r⟩:=h.2 i x e;⟨v,q,r.mono p t⟩⟩
theorem RE.set{x:PV}(h:RE C φ H δ σ)(r:RV C φ H x v)(i:Nat):RE C φ H (δ.set i (some x)) (σ.set i (some v)):=by
 refine⟨by rw[Qu,Qu];exact h.1,λj p e=>?_⟩
 by_cases hj:i=j
 ·subst hj
  by_cases hl:i<δ.length
  ·rw[Q3 hl]at e;cases e
   exact⟨v,by rw[Q3 (by rw[<-h.1];exact hl)],r⟩
  ·rw[Rz (by rw[Qu];omega)]at e;cases e
 ·rw[QQ hj]at e;rw[QQ hj];exact h.2 j p e
theorem RO.stayQ{o:MO}(p:φ<+:φ')(t:Kq H H')(e:H' a=H a)(h:RO C φ H a o):RO C φ' H' a o:=by
 cases o with
 |lst ps=>obtain⟨vs,q,r⟩:=h;exact⟨vs,e.trans q,r.monoQ p t⟩
 |dK ps=>obtain⟨vs,q,r⟩:=h;exact⟨vs,e.trans q,r.monoQ p t⟩
 |ins n fs=>obtain⟨c,dx,ks,hc,q,r⟩:=h;exact⟨c,dx,ks,hc,e.trans q,r.monoQ p t⟩
 |dD kvs=>obtain⟨ks,q,r⟩:=h;exact⟨ks,e.trans q,r.monoQ p t⟩
 |vw kd d=>obtain⟨b,hb,q⟩:=h;exact⟨b,fP p hb,e.trans q⟩
 |fz o=>
  cases o with
  |dK kvs=>obtain⟨ob,ks,q,r⟩:=h;exact⟨ob,ks,e.trans q,r.monoQ p t⟩
  |dD kvs=>obtain⟨ob,ks,q,r⟩:=h;exact⟨ob,ks,e.trans q,r.monoQ p t⟩
  |_=>exact h.elim
theorem RO.stay{o:MO}(p:φ<+:φ')(t:Kp H H')(e:H' a=H a)(h:RO C φ H a o):RO C φ' H' a o:=h.stayQ p t.q e
theorem RO.some{o:MO}(h:RO C φ H a o):∃u,H a=some u:=by
 cases o with
 |lst ps=>obtain⟨vs,q,r⟩:=h;exact⟨_,q⟩
 |dK ps=>obtain⟨vs,q,r⟩:=h;exact⟨_,q⟩
 |ins n fs=>obtain⟨c,dx,ks,hc,q,r⟩:=h;exact⟨_,q⟩
 |dD kvs=>obtain⟨ks,q,r⟩:=h;exact⟨_,q⟩
 |vw kd d=>obtain⟨b,hb,q⟩:=h;exact⟨_,q⟩
 |fz o=>
  cases o with
  |dK kvs=>obtain⟨ob,ks,q,r⟩:=h;exact⟨_,q⟩
  |dD kvs=>obtain⟨ob,ks,q,r⟩:=h;exact⟨_,q⟩
  |_=>exact h.elim
variable{h:PH}
theorem RH.get(r:RH C φ H h){o:MO}(e:h[n]?=some o):∃a,φ[n]?=some a/\RO C φ H a o:=by
 have hn:=(Pv.mp e).1;have:n<φ.length:=by rw[r.len];exact hn
 exact⟨φ[n],by simp[this],r.at' n _ o (by simp[this]) e⟩
theorem RH.tracked(r:RH C φ H h)(e:φ[n]?=some a):∃u,H a=some u:=by
 have hn:=(Pv.mp e).1;have:n<h.length:=by rw[<-r.len];exact hn
 exact(r.at' n a h[n] e (by simp[this])).some
theorem RH.aside(r:RH C φ H h)(e:H a=none):RH C φ (upd H a o) h:=
 ⟨r.len,r.nd,λn b ob h1 h2=>by
  have q:=r.at' n b ob h1 h2;obtain⟨u,hu⟩:=q.some;exact q.stay (PF) (Kp.new e) (aH (cI hu e))⟩
theorem RH.new(r:RH C φ H h){u:HO}{o:MO}(e:H a=none)(q:RO C (φ++[a]) (upd H a u) a o):RH C (φ++[a]) (upd H a u) (h++[o]):=by
 refine⟨by simp[r.len],?_,λn b ob h1 h2=>?_⟩
 ·rw[QM];refine⟨r.nd,by simp,λx hx y hy z=>?_⟩;rw[Qe]at hy;subst hy z;obtain⟨n,hn⟩:=Sz.mp hx;obtain⟨u',hu⟩:=r.tracked hn;rw[e]at hu;cases hu
 ·by_cases hn:n<φ.length
  ·rw[QC hn]at h1;rw[QC (by rw[<-r.len];exact hn)]at h2;have q':=r.at' n b ob h1 h2;obtain⟨u',hu⟩:=q'.some;exact q'.stay (QB _ _) (Kp.new e) (aH (cI hu e))
  ·have qc:n=φ.length:=by
    have:=(Pv.mp h1).1;simp at this;omega
   subst qc;rw[Q1 (PD _),Nat.sub_self]at h1;rw[r.len,Q1 (PD _),Nat.sub_self]at h2;cases h1
   cases h2
   exact q
theorem RH.write(r:RH C φ H h){u:HO}{o:MO}(e:φ[n]?=some a)(t:rE (H a))(q:RO C φ (upd H a u) a o):RH C φ (upd H a u) (h.set n o):=by
 refine⟨by rw[Qu];exact r.len,r.nd,λm b ob h1 h2=>?_⟩
 by_cases hm:n=m
 ·subst hm;rw[e]at h1;cases h1;have hl:n<h.length:=by rw[<-r.len];exact(Pv.mp e).1
  rw[Q3 hl]at h2;cases h2
  exact q
 ·rw[QQ hm]at h2;have hb:b≠a:=λz=>by
   subst z;exact hm ((List.getElem?_inj (Pv.mp e).1 r.nd).mp (e.trans h1.symm))
  exact(r.at' m b ob h1 h2).stay PF (Kp.upd t) (aH hb)
section
variable(C:MC)(φ:List Addr)(H:Hp)
def post(r:Rs PV)(Q:VK):Prop:=match r with
 |.ok p h=>∀φ' v H',φ<+:φ'->Kp H H'->RH C φ' H' h->RV C φ' H' p v->Q v H'
 |.exc x h=>∀φ' H',φ<+:φ'->Kp H H'->RH C φ' H' h->C.ex φ' H' x
 |.bad=>False
def bD(r:Rs Bool)(Q:Bool->Hp->Prop):Prop:=match r with
 |.ok b h=>∀φ' H',φ<+:φ'->Kp H H'->RH C φ' H' h->Q b H'
 |.exc x h=>∀φ' H',φ<+:φ'->Kp H H'->RH C φ' H' h->C.ex φ' H' x
 |.bad=>False
def postA(r:Rs (List PV))(Q:List V->Hp->Prop):Prop:=match r with
 |.ok ps h=>∀φ' vs H',φ<+:φ'->Kp H H'->RH C φ' H' h->RVs C φ' H' ps vs->Q vs H'
 |.exc x h=>∀φ' H',φ<+:φ'->Kp H H'->RH C φ' H' h->C.ex φ' H' x
 |.bad=>False
def bN(r:Fl)(D:Ends):Prop:=match r with
 |.nx δ h=>∀φ' σ H',φ<+:φ'->Kp H H'->RH C φ' H' h->RE C φ' H' δ σ->D.nx σ H'
 |.rt p h=>∀φ' v H',φ<+:φ'->Kp H H'->RH C φ' H' h->RV C φ' H' p v->D.rt v H'
 |.bk δ h=>∀φ' σ H',φ<+:φ'->Kp H H'->RH C φ' H' h->RE C φ' H' δ σ->D.bk σ H'
 |.ct δ h=>∀φ' σ H',φ<+:φ'->Kp H H'->RH C φ' H' h->RE C φ' H' δ σ->D.ct σ H'
 |.exc x h=>∀φ' H',φ<+:φ'->Kp H H'->RH C φ' H' h->C.ex φ' H' x
 |.bad=>False
end
variable{φ1:List Addr}
theorem post.weak{r:Rs PV}{Q:VK}(p:φ<+:φ1)(t:Kp H H1)(h:post C φ H r Q):post C φ1 H1 r Q:=by
 cases r with
 |ok a h'=>exact λφ' v H' p' t'=>h φ' v H' (p.trans p') (t.trans t')
 |exc a h'=>exact λφ' H' p' t'=>h φ' H' (p.trans p') (t.trans t')
 |bad=>exact h
theorem bD.weak{r:Rs Bool}{Q:Bool->Hp->Prop}(p:φ<+:φ1)(t:Kp H H1)(h:bD C φ H r Q):bD C φ1 H1 r Q:=by
 cases r with
 |ok a h'=>exact λφ' H' p' t'=>h φ' H' (p.trans p') (t.trans t')
 |exc a h'=>exact λφ' H' p' t'=>h φ' H' (p.trans p') (t.trans t')
 |bad=>exact h
theorem postA.weak{r:Rs (List PV)}{Q:List V->Hp->Prop}(p:φ<+:φ1)(t:Kp H H1)(h:postA C φ H r Q):postA C φ1 H1 r Q:=by
 cases r with
 |ok a h'=>exact λφ' v H' p' t'=>h φ' v H' (p.trans p') (t.trans t')
 |exc a h'=>exact λφ' H' p' t'=>h φ' H' (p.trans p') (t.trans t')
 |bad=>exact h
theorem bN.weak{r:Fl}{D:Ends}(p:φ<+:φ1)(t:Kp H H1)(h:bN C φ H r D):bN C φ1 H1 r D:=by
 cases r with
 |nx a h'=>exact λφ' v H' p' t'=>h φ' v H' (p.trans p') (t.trans t')
 |rt a h'=>exact λφ' v H' p' t'=>h φ' v H' (p.trans p') (t.trans t')
 |bk a h'=>exact λφ' v H' p' t'=>h φ' v H' (p.trans p') (t.trans t')
 |ct a h'=>exact λφ' v H' p' t'=>h φ' v H' (p.trans p') (t.trans t')
 |exc a h'=>exact λφ' H' p' t'=>h φ' H' (p.trans p') (t.trans t')
 |bad=>exact h
theorem post.imp{r:Rs PV}{Q Q':VK}(h:post C φ H r Q)(i:∀v H',Q v H'->Q' v H'):post C φ H r Q':=by
 cases r with
 |ok a h'=>exact λφ' v H' p t rh rv=>i v H' (h φ' v H' p t rh rv)
 |exc a h'=>exact h
 |bad=>exact h
theorem post.bind{r:Rs PV}{f:PV->PH->Rs PV}{Q:VK}(h:post C φ H (r.bind f) Q):post C φ H r λv H1=>∃φ1 p h1,φ<+:φ1/\Kp H H1/\RH C φ1 H1 h1/\RV C φ1 H1 p v/\post C φ1 H1 (f p h1) Q:=by
 cases r with
 |ok a h'=>exact λφ' v H' p t rh rv=>⟨φ',a,h',p,t,rh,rv,post.weak p t h⟩
 |exc a h'=>exact h
 |bad=>exact h
theorem post.bindB{r:Rs PV}{f:PV->PH->Rs Bool}{Q:Bool->Hp->Prop}(h:bD C φ H (r.bind f) Q):post C φ H r λv H1=>∃φ1 p h1,φ<+:φ1/\Kp H H1/\RH C φ1 H1 h1/\RV C φ1 H1 p v/\bD C φ1 H1 (f p h1) Q:=by
 cases r with
 |ok a h'=>exact λφ' v H' p t rh rv=>⟨φ',a,h',p,t,rh,rv,bD.weak p t h⟩
 |exc a h'=>exact h
 |bad=>exact h
theorem bD.bind{r:Rs Bool}{f:Bool->PH->Rs PV}{Q:VK}(h:post C φ H (r.bind f) Q):bD C φ H r λb H1=>∃φ1 h1,φ<+:φ1/\Kp H H1/\RH C φ1 H1 h1/\post C φ1 H1 (f b h1) Q:=by
 cases r with
 |ok a h'=>exact λφ' H' p t rh=>⟨φ',h',p,t,rh,post.weak p t h⟩
 |exc a h'=>exact h
 |bad=>exact h
theorem bD.bindB{r:Rs Bool}{f:Bool->PH->Rs Bool}{Q:Bool->Hp->Prop}(h:bD C φ H (r.bind f) Q):bD C φ H r λb H1=>∃φ1 h1,φ<+:φ1/\Kp H H1/\RH C φ1 H1 h1/\bD C φ1 H1 (f b h1) Q:=by
 cases r with
 |ok a h'=>exact λφ' H' p t rh=>⟨φ',h',p,t,rh,bD.weak p t h⟩
 |exc a h'=>exact h
 |bad=>exact h
theorem postA.bind{r:Rs (List PV)}{f:List PV->PH->Rs PV}{Q:VK}(h:post C φ H (r.bind f) Q):postA C φ H r λvs H1=>∃φ1 ps h1,φ<+:φ1/\Kp H H1/\RH C φ1 H1 h1/\RVs C φ1 H1 ps vs/\post C φ1 H1 (f ps h1) Q:=by
 cases r with
 |ok a h'=>exact λφ' v H' p t rh rv=>⟨φ',a,h',p,t,rh,rv,post.weak p t h⟩
 |exc a h'=>exact h
 |bad=>exact h
theorem postA.bindA{r:Rs (List PV)}{f:List PV->PH->Rs (List PV)}{Q:List V->Hp->Prop}(h:postA C φ H (r.bind f) Q):postA C φ H r λvs H1=>∃φ1 ps h1,φ<+:φ1/\Kp H H1/\RH C φ1 H1 h1/\RVs C φ1 H1 ps vs/\postA C φ1 H1 (f ps h1) Q:=by
 cases r with
 |ok a h'=>exact λφ' v H' p t rh rv=>⟨φ',a,h',p,t,rh,rv,postA.weak p t h⟩
 |exc a h'=>exact h
 |bad=>exact h
theorem post.bindA{r:Rs PV}{f:PV->PH->Rs (List PV)}{Q:List V->Hp->Prop}(h:postA C φ H (r.bind f) Q):post C φ H r λv H1=>∃φ1 p h1,φ<+:φ1/\Kp H H1/\RH C φ1 H1 h1/\RV C φ1 H1 p v/\postA C φ1 H1 (f p h1) Q:=by
 cases r with
 |ok a h'=>exact λφ' v H' p t rh rv=>⟨φ',a,h',p,t,rh,rv,postA.weak p t h⟩
 |exc a h'=>exact h
 |bad=>exact h
theorem post.val{Q:VK}(q:post C φ H (.ok p h) Q)(rh:RH C φ H h)(rv:RV C φ H p v):Q v H:=q φ v H PF (Kp.refl H) rh rv
open PySem PySem.Spec PyProof.Rows
structure Cxt(C:MC)(k:Nat)(X:Cx):Prop where
 K:X.K=C.K
 calm:X.calm=true
 room:dX k X.A
 bn:∀x∈C.bs,X.mg x=none
 w:X.w=C.w
theorem Cxt.hu{k:Nat}(c:Cxt C k X):X.A.units+1<cLine:=Lw c.room
theorem Cxt.hu64{k:Nat}(c:Cxt C k X):X.A.units+64<cLine:=c.room.units
theorem Cxt.comp{k:Nat}(c:Cxt C k X)(sc:Scope)(N:List Str)(a:Addr)(fp:List Addr)(s:Shared)(H:Hp):Cxt C k (X.comp sc N a fp s H):=⟨c.K,c.calm,c.room,c.bn,c.w⟩
section
variable(C:MC)
def rd(m:Me):TE:=λσ H Q=>∃φ δ h,RH C φ H h/\RE C φ H δ σ/\post C φ H (m δ h) Q
def rdB(m:Ev->PH->Rs Bool):TT:=λσ H Q=>∃φ δ h,RH C φ H h/\RE C φ H δ σ/\bD C φ H (m δ h) Q
def rdA(m:Ev->PH->Rs (List PV)):TA:=λσ H Q=>∃φ δ h,RH C φ H h/\RE C φ H δ σ/\postA C φ H (m δ h) Q
def rdS(m:Ms):TS:=λD σ H=>∃φ δ h,RH C φ H h/\RE C φ H δ σ/\bN C φ H (m δ h) D
def r2(g:PV->PV->PH->Rs PV):R2:=λx y H Q=>∃φ h p q,RH C φ H h/\RV C φ H p x/\RV C φ H q y/\post C φ H (g p q h) Q
def r1(g:PV->PH->Rs PV):V->Hp->VK->Prop:=λx H Q=>∃φ h p,RH C φ H h/\RV C φ H p x/\post C φ H (g p h) Q
def rL(g:List PV->PH->Rs PV):List V->Hp->VK->Prop:=λxs H Q=>∃φ h ps,RH C φ H h/\RVs C φ H ps xs/\post C φ H (g ps h) Q
end
variable{C:MC}{k:Nat}{X:Cx}
def SE(C:MC)(k:Nat)(X:Cx)(e:Expr)(m:Me):Prop:=Cxt C k X->PE X e (rd C m)
def ST(C:MC)(k:Nat)(X:Cx)(e:Expr)(m:Ev->PH->Rs Bool):Prop:=Cxt C k X->PT X e (rdB C m)
def SA(C:MC)(k:Nat)(X:Cx)(es:List Expr)(m:Ev->PH->Rs (List PV)):Prop:=Cxt C k X->PA X es (rdA C m)
def SSt(C:MC)(k:Nat)(X:Cx)(st:Stmt)(m:Ms):Prop:=Cxt C k X->PS X st (rdS C m)
def SSs(C:MC)(k:Nat)(X:Cx)(st:List Stmt)(m:Ms):Prop:=Cxt C k X->PSs X st (rdS C m)
def OpS(C:MC)(k:Nat)(X:Cx)(f:Value->Value->Sem Value)(g:PV->PV->PH->Rs PV):Prop:=Cxt C k X->OpR X f (r2 C g)
def UnS(C:MC)(k:Nat)(X:Cx)(f:Value->Sem Value)(g:PV->PH->Rs PV):Prop:=Cxt C k X->UnR X f (r1 C g)
def oI(C:MC)(k:Nat)(X:Cx)(f:Value)(g:List PV->PH->Rs PV):Prop:=Cxt C k X->bS X f (rL C g)
def yH:Ev->Nat->Option PV
 |[],_=>none
 |x::_,0=>x
 |_::r,n+1=>yH r n
@[simp]theorem Dh(x:Option PV)(r:Ev):yH (x::r) 0=x:=(rfl)
@[simp]theorem L4(x:Option PV)(r:Ev)(n:Nat):yH (x::r) (n+1)=yH r n:=(rfl)
theorem tJ:∀{δ:Ev}{i:Nat}{p:PV},yH δ i=some p->δ[i]?=some (some p)
 |[],_,_,h=>by cases h
 |x::_,0,p,h=>by
  have h':x=some p:=h;simp[h']
 |_::r,n+1,p,h=>by
  rw[Rh];exact tJ (δ:=r) (i:=n) h
def mV(i:Nat):Me:=λδ h=>match yH δ i with
 |some p=>.ok p h
 |none=>.bad
def mC(p:PV):Me:=λ_ h=>.ok p h
theorem LN(i:Nat)(hN:X.N[i]?=some x:=by rfl)(hv:Vis X.env.scope x:=by first|exact Or.inl rfl|exact Or.inr (Or.inl rfl)|exact Or.inr (Or.inr rfl))(hd:(x == ("__debug__" : Str))=false:=by decide)(fh:(x == ("__classdict__" : Str))=false:=by decide):SE C k X (.Name x pos) (mV i):=λ_=>by
 refine(DX hN hv hd fh).imp λσ H Q h=>?_;obtain⟨φ,δ,h,rh,re,p⟩:=h;unfold mV at p;cases e:yH δ i with
 |none=>rw[e]at p;exact p.elim
 |some x=>
  rw[e]at p;obtain⟨v,hv,rv⟩:=re.2 i x (tJ e);exact⟨v,hv,p.val rh rv⟩
theorem LO{i j pos}:SE C k X (.Constant (.int i) j pos) (mC (.int i)):=λ_=>J7.imp λσ H Q ⟨φ,δ,h,rh,re,p⟩=>p.val rh rfl
theorem O1{i j pos}:SE C k X (.Constant (.bool i) j pos) (mC (.bl i)):=λ_=>L'.imp λσ H Q ⟨φ,δ,h,rh,re,p⟩=>p.val rh rfl
theorem LP{j pos}:SE C k X (.Constant .none j pos) (mC .non):=λ_=>J8.imp λσ H Q ⟨φ,δ,h,rh,re,p⟩=>p.val rh rfl
theorem LQ{i j pos}:SE C k X (.Constant (.str i) j pos) (mC (.str i)):=λ_=>J9.imp λσ H Q ⟨φ,δ,h,rh,re,p⟩=>p.val rh rfl
theorem EF{n:String}(hv:RT x=some (.type n))(hb:x∈C.bs:=by decide)(hg:Gl X x:=by rfl)(hn:x≠"__name__" := by decide)(hd:(x == ("__debug__" : Str))=false:=by decide):SE C k X (.Name x pos) (mC (.ty n)):=λc=>
 (Gw (v:=.ty n) hg (c.bn x hb) hv rfl hn hd).imp λσ H Q ⟨φ,δ,h,rh,re,p⟩=>p.val rh rfl
def aB(g:PV->PV->PH->Rs PV)(ma mb:Me):Me:=λδ h=>(ma δ h).bind λx h1=>(mb δ h1).bind λy h2=>g x y h2
variable{ma mb:Me}
theorem C1{g:PV->PV->PH->Rs PV}{Q:VK}(h:rd C (aB g ma mb) σ H Q):tOp (r2 C g) (rd C ma) (rd C mb) σ H Q:=by
 obtain⟨φ,δ,h,rh,re,p⟩:=h;refine⟨φ,δ,h,rh,re,(post.bind p).imp ?_⟩;rintro v H1 ⟨φ1,x,h1,p1,t1,aa,ab,q1⟩;refine⟨φ1,δ,h1,aa,re.mono p1 t1,(post.bind q1).imp ?_⟩;rintro u H2 ⟨φ2,y,h2,p2,t2,ah,b8,q2⟩;exact⟨φ2,h2,x,y,ah,ab.mono p2 t2,b8,q2⟩
variable{op:CmpOp}
section
variable{a b:Expr}{g:PV->PV->PH->Rs PV}
theorem LR{op:Operator}(ho:OpS C k X (QW op) g)(ha:SE C k X a ma)(hb:SE C k X b mb):SE C k X (.BinOp a op b pos) (aB g ma mb):=λc=>
 (Lh (ho c) (ha c) (hb c)).imp λσ H Q h=>C1 h
theorem LS(ho:OpS C k X (Qn op) g)(ha:SE C k X a ma)(hb:SE C k X b mb)(hm:behindInMarks op b=false:=by first|exact E5 _|rfl):SE C k X (.Compare a [op] [b] pos) (aB g ma mb):=λc=>
 (GF (ho c) (ha c) (hb c) hm).imp λσ H Q h=>C1 h
def mUn(g:PV->PH->Rs PV)(ma:Me):Me:=λδ h=>(ma δ h).bind g
theorem O2{op:UnaryOp}{g:PV->PH->Rs PV}(ho:UnS C k X (unaryOp op) g)(ha:SE C k X a ma):SE C k X (.UnaryOp op a pos) (mUn g ma):=λc=>
 (Li (ho c) (ha c)).imp λσ H Q h=>by
  obtain⟨φ,δ,h,rh,re,p⟩:=h;refine⟨φ,δ,h,rh,re,(post.bind p).imp ?_⟩;rintro v H1 ⟨φ1,x,h1,p1,t1,aa,ab,q1⟩;exact⟨φ1,h1,x,aa,ab,q1⟩
end
def aO(h:PH)(n:Nat):Option (List PV):=match h[n]? with
 |some (.lst xs)=>some xs
 |_=>none
theorem cA(rh:RH C φ H h)(e:aO h n=some xs):∃a vs,φ[n]?=some a/\SqL C.K H a vs/\RVs C φ H xs vs:=by
 unfold aO at e;cases q:h[n]? with
 |none=>rw[q]at e;cases e
 |some o=>
  rw[q]at e;obtain⟨a,ha,ro⟩:=rh.get q;cases o with
  |lst ys=>cases e;obtain⟨vs,q',r⟩:=ro;exact⟨a,vs,ha,SqL.of q',r⟩
  |_=>cases e
def cQ(h:PH)(n:Nat):Option (List PV):=match h[n]? with
 |some (.lst xs)=>some xs
 |_=>none
theorem fV(e:cQ h n=some xs):h[n]?=some (.lst xs):=by
 unfold cQ at e;cases q:h[n]? with
 |none=>rw[q]at e;cases e
 |some o=>
  rw[q]at e;cases o with
  |lst ys=>cases e;rfl
  |_=>cases e
def iF(x:PV)(h:PH):Option (List PV):=match x with
 |.ref n=>aO h n
 |.fl xs=>some xs
 |_=>none
theorem oJ{x:PV}(rh:RH C φ H h)(rv:RV C φ H x v)(e:iF x h=some xs):∃a vs,v=.ref a/\SqL C.K H a vs/\RVs C φ H xs vs:=by
 cases x with
 |ref n=>
  obtain⟨a,rfl,ha⟩:=rv;obtain⟨a2,vs,au,sa,ra⟩:=cA rh e;rw[ha]at au;cases au;exact⟨a,vs,rfl,sa,ra⟩
 |fl ys=>
  cases e
  obtain⟨a,vs,rfl,sa,ra⟩:=rv;exact⟨a,vs,rfl,sa.sq,ra⟩
 |_=>cases e
def IT:List PV->Bool
 |[]=>true
 |_::_=>false
def EG:PV->PV->PH->Rs PV:=λx y h=>match x,y with
 |.int i,.int j=>.ok (.int (i+j)) h
 |.str i,.str j=>if i.length+j.length<=PP then .ok (.str (i++j)) h else .bad
 |.tup xs,.tup ys=>if IT xs=false/\xs.length+ys.length<=PP then .ok (.tup (xs++ys)) h else .bad
 |.ref a,.ref b=>match cQ h a,cQ h b with
  |some xs,some ys=>if xs.length+ys.length<=PP then .ok (.ref h.length) (h++[.lst (xs++ys)]) else .bad
  |_,_=>.bad
 |_,_=>.bad
theorem post.ite{c:Prop}[Decidable c]{r:Rs PV}{Q:VK}(h:post C φ H (if c then r else .bad) Q):c/\post C φ H r Q:=by
 by_cases hc:c
 ·rw[if_pos hc]at h;exact⟨hc,h⟩
 ·rw[if_neg hc]at h;exact h.elim
theorem post.lnew{Q:VK}(q:post C φ H (.ok (.ref h.length) (h++[.lst xs])) Q)(rh:RH C φ H h)(r:RVs C φ H xs vs){p:Addr}(hp:H p=none):Q (.ref p) (upd H p (.lst vs)):=
 q (φ++[p]) (.ref p) _ (QB _ _) (Kp.new hp) (rh.new hp ⟨vs,aJ,r.mono (QB _ _) (Kp.new hp)⟩) ⟨p,rfl,by rw[<-rh.len];simp⟩
theorem post.tnew{Q:VK}(q:post C φ H (.ok (.tup xs) h) Q)(rh:RH C φ H h)(r:RVs C φ H xs vs){p:Addr}(hp:H p=none):Q (.ref p) (upd H p (.tup vs)):=
 q φ (.ref p) _ PF (Kp.new hp) (rh.aside hp) ⟨p,vs,rfl,SqT.of aJ,r.mono PF (Kp.new hp)⟩
theorem post.lset{ws:List V}{Q:VK}(q:post C φ H (.ok p (h.set n (.lst xs))) Q)(rh:RH C φ H h)(e:φ[n]?=some a)(hl:H a=some (.lst ws))(r:RVs C φ H xs vs)(rv:RV C φ H p v):Q v (upd H a (.lst vs)):=
 q φ v _ PF (Kp.lst hl) (rh.write e (by rw[hl];trivial) ⟨vs,aJ,r.mono PF (Kp.lst hl)⟩) (rv.mono PF (Kp.lst hl))
theorem EH(r:RVs C φ H xs vs)(h:IT xs=false):vs≠[]:=by
 cases xs with
 |nil=>cases h
 |cons x xs=>
  cases vs with
  |nil=>exact r.elim
  |cons=>intro z;cases z
theorem LU:OpS C k X (QW .Add) EG:=λc=>(GX C.K c.K).imp λx y H Q h=>by
 obtain⟨φ,h,p,q,rh,rx,ry,po⟩:=h;unfold EG at po;cases p with
 |int i=>
  cases q with
  |int j=>cases rx;cases ry;exact po.val rh rfl
  |_=>exact po.elim
 |str i=>
  cases q with
  |str j=>cases rx;cases ry;exact⟨po.ite.1,po.ite.2.val rh rfl⟩
  |_=>exact po.elim
 |tup xs=>
  cases q with
  |tup ys=>
   obtain⟨a,vs,rfl,sa,ra⟩:=rx;obtain⟨b,us,rfl,sb,rb⟩:=ry;obtain⟨⟨h1,h2⟩,po⟩:=po.ite;refine .inr ⟨a,b,vs,us,rfl,rfl,sa,sb,EH ra h1,by rw[<-ra.length,<-rb.length];exact h2,λz=>?_,λz p hp=>po.tnew rh (ra.append rb) hp⟩;subst z;have e:ys=[]:=List.eq_nil_of_length_eq_zero rb.length;subst e;exact po.val rh ⟨a,vs,rfl,sa,by rw[Ru];exact ra⟩
  |_=>exact po.elim
 |ref n=>
  cases q with
  |ref m=>
   obtain⟨a,rfl,ha⟩:=rx;obtain⟨b,rfl,hb⟩:=ry;dsimp only at po;cases e1:cQ h n with
   |none=>rw[e1]at po;exact po.elim
   |some xs=>
    cases e2:cQ h m with
    |none=>rw[e1,e2]at po;exact po.elim
    |some ys=>
     rw[e1,e2]at po;obtain⟨vs,h1,r1⟩:=rh.at' n a _ ha (fV e1);obtain⟨us,h2,r2⟩:=rh.at' m b _ hb (fV e2);obtain⟨hz,po⟩:=po.ite;exact .inl ⟨a,b,vs,us,rfl,rfl,h1,h2,by rw[<-r1.length,<-r2.length];exact hz,λp hp=>po.lnew rh (r1.append r2) hp⟩
  |_=>exact po.elim
 |_=>exact po.elim
def vInt(P:Int->Int->Prop)[∀i j,Decidable (P i j)](f:Int->Int->Int):PV->PV->PH->Rs PV:=λx y h=>match x,y with
 |.int i,.int j=>if P i j then .ok (.int (f i j)) h else .bad
 |_,_=>.bad
theorem C2{P:Int->Int->Prop}[∀i j,Decidable (P i j)](ho:OpR X f (vX P g)):OpS C k X f (vInt P g):=λc=>ho.imp λx y H Q h=>by
 obtain⟨φ,h,p,q,rh,rx,ry,po⟩:=h;unfold vInt at po;cases p with
 |int i=>
  cases q with
  |int j=>cases rx;cases ry;exact⟨po.ite.1,po.ite.2.val rh rfl⟩
  |_=>exact po.elim
 |_=>exact po.elim
noncomputable instance(i j:Int):Decidable (A2 i j):=Ri _
noncomputable instance(i j:Int):Decidable (E4 i j):=Ri _
noncomputable instance(i j:Int):Decidable (CF i j):=Ri _
def vG:PV->PV->PH->Rs PV:=λx y h=>match x,y with
 |.int i,.int j=>.ok (.int (i-j)) h
 |_,_=>.bad
theorem LV:OpS C k X (QW .Sub) vG:=λc=>GY.imp λx y H Q h=>by
 obtain⟨φ,h,p,q,rh,rx,ry,po⟩:=h;unfold vG at po;cases p with
 |int i=>
  cases q with
  |int j=>cases rx;cases ry;exact po.val rh rfl
  |_=>exact po.elim
 |_=>exact po.elim
noncomputable abbrev yI:=vInt A2 λi j=>i*j
noncomputable abbrev Di:=vInt E4 λi j=>i/j
abbrev eZ:=vInt (λ_ j=>0<j) λi j=>i%j
noncomputable abbrev Hl:=vInt CF λi j=>i ^ j.toNat
theorem LW:OpS C k X (QW .Mult) yI:=C2 GZ
theorem LX:OpS C k X (QW .FloorDiv) Di:=C2 Ha
theorem LY:OpS C k X (QW .Mod) eZ:=C2 Hb
theorem LZ:OpS C k X (QW .Pow) Hl:=C2 Hc
def Ak:PV->PH->Rs PV:=λx h=>match x with
 |.int i=>.ok (.int (-i)) h
 |_=>.bad
open PySem PySem.Spec PyProof.Rows
variable{C:MC}{k:Nat}{X:Cx}
def Dj(f:Int->Int->Bool)(g:List Nat->List Nat->Bool):PV->PV->PH->Rs PV:=λx y h=>match x,y with
 |.int i,.int j=>.ok (.bl (f i j)) h
 |.str i,.str j=>.ok (.bl (g i.cps.toList j.cps.toList)) h
 |_,_=>.bad
theorem EI{p:Int->Int->Bool}{g:List Nat->List Nat->Bool}(ho:OpR X f (A9 p g)):OpS C k X f (Dj p g):=λc=>ho.imp λx y H Q h=>by
 obtain⟨φ,h,p,q,rh,rx,ry,po⟩:=h;unfold Dj at po;cases p with
 |int i=>
  cases q with
  |int j=>cases rx;cases ry;exact po.val rh rfl
  |_=>exact po.elim
 |str i=>
  cases q with
  |str j=>cases rx;cases ry;exact po.val rh rfl
  |_=>exact po.elim
 |_=>exact po.elim
abbrev vLt:=Dj (λi j=>decide (i<j)) λi j=>decide (i<j)
abbrev vGt:=Dj (λi j=>decide (j<i)) λi j=>decide (j<i)
abbrev vLe:=Dj (λi j=>decide (i<=j)) λi j=>!decide (j<i)
theorem O3:OpS C k X (Qn .Lt) vLt:=EI JK
theorem O4:OpS C k X (Qn .Gt) vGt:=EI JL
theorem O5:OpS C k X (Qn .LtE) vLe:=EI JM
mutual
def PV.d:PV->Option D
 |.non=>some .non
 |.bl b=>some (.bl b)
 |.int i=>some (.int i)
 |.str x=>some (.str x)
 |.tup xs=>match PV.ds xs with
  |some ds=>some (.tup ds)
  |none=>none
 |.ref _=>none
 |.ty _=>none
 |.fl _=>none
def PV.ds:List PV->Option (List D)
 |[]=>some []
 |x::xs=>match PV.d x,PV.ds xs with
  |some d,some ds=>some (d::ds)
  |_,_=>none
end
mutual
theorem RV.rep:∀{x:PV}{d:D}{v:V},RV C φ H x v->x.d=some d->Rep C.K H d v
 |.non,_,_,h,e=>by cases e;exact h
 |.bl _,_,_,h,e=>by cases e;exact h
 |.int _,_,_,h,e=>by cases e;exact h
 |.str _,_,_,h,e=>by cases e;exact h
 |.tup xs,d,v,⟨a,vs,e1,q,r⟩,e=>by
  unfold PV.d at e;cases e2:PV.ds xs with
  |none=>rw[e2]at e;cases e
  |some ds=>
   rw[e2]at e;cases e
   exact⟨a,vs,e1,q,RVs.reps r e2⟩
 |.ref _,_,_,_,e=>by cases e
 |.ty _,_,_,_,e=>by cases e
 |.fl _,_,_,_,e=>by cases e
theorem RVs.reps:∀{xs:List PV}{ds:List D}{vs:List V},RVs C φ H xs vs->PV.ds xs=some ds->cF C.K H ds vs
 |[],_,[],_,e=>by cases e;trivial
 |x::xs,_,v::vs,⟨h,r⟩,e=>by
  unfold PV.ds at e;cases e1:PV.d x with
  |none=>rw[e1]at e;cases e
  |some d=>
   cases e2:PV.ds xs with
   |none=>rw[e1,e2]at e;cases e
   |some ds=>
    rw[e1,e2]at e;cases e
    exact⟨RV.rep h e1,RVs.reps r e2⟩
 |[],_,_::_,h,_=>h.elim
 |_::_,_,[],h,_=>h.elim
end
def yJ(x y:PV)(h:PH):Option Bool:=match x.d,y.d with
 |some d,some e=>if d.depth<=40 then some (eqD d e) else none
 | _,_=>match iF x h,iF y h with
   |some xs,some ys=>match PV.ds xs,PV.ds ys with
    |some ds,some es=>if D.depths ds<=40 then some (fO ds es) else none
    |_,_=>none
   |_,_=>none
def ofB(o:Option Bool)(h:PH):Rs PV:=match o with
 |some b=>.ok (.bl b) h
 |none=>.bad
def vEq:PV->PV->PH->Rs PV:=λx y h=>ofB (yJ x y h) h
def vNe:PV->PV->PH->Rs PV:=λx y h=>ofB ((yJ x y h).map not) h
set_option tactic.hygienic true in
theorem tK{q:PV}{x:V}(rh:RH C φ H h)(rx:RV C φ H p x)(ry:RV C φ H q y)(e:yJ p q h=some b):
  (∃d e,Rep C.K H d x/\Rep C.K H e y/\d.depth<=40/\b=eqD d e)\/(∃ds es,D5 C.K H ds x/\D5 C.K H es y/\D.depths ds<=40/\b=fO ds es):=by
 unfold yJ at e;split at e
 ·rename_i d e' h1 h2;split at e
  ·rename_i hd;cases e
   exact .inl ⟨d,e',rx.rep h1,ry.rep h2,hd,rfl⟩
  ·cases e
 ·split at e
  ·rename_i xs ys h1 h2;split at e
   ·rename_i ds es h3 h4;split at e
    ·rename_i hd;cases e
     obtain⟨a',vs,rfl,sa,ra⟩:=oJ rh rx h1;obtain⟨zj,us,rfl,sb,rb⟩:=oJ rh ry h2;exact .inr ⟨ds,es,⟨a',vs,rfl,sa,ra.reps h3⟩,⟨zj,us,rfl,sb,rb.reps h4⟩,hd,rfl⟩
    ·cases e
   ·cases e
  ·cases e
theorem post.ofB{o:Option Bool}{Q:VK}(q:post C φ H (ofB o h) Q):∃b,o=some b/\post C φ H (.ok (.bl b) h) Q:=by
 cases o with
 |none=>exact q.elim
 |some b=>exact⟨b,rfl,q⟩
theorem O6:OpS C k X (Qn .Eq) vEq:=λc=>((JQ c.hu64 C.K c.K).or (JS c.hu64 C.K c.K)).imp λx y H Q h=>by
 obtain⟨φ,h,p,q,rh,rx,ry,po⟩:=h;obtain⟨b,e,po⟩:=po.ofB;rcases tK rh rx ry e with⟨d,e',h1,h2,h3,rfl⟩|⟨d,e',h1,h2,h3,rfl⟩
 ·exact .inl ⟨d,e',h1,h2,h3,po.val rh rfl⟩
 ·exact .inr ⟨d,e',h1,h2,h3,po.val rh rfl⟩
theorem O7:OpS C k X (Qn .NotEq) vNe:=λc=>((JR c.hu64 C.K c.K).or (JT c.hu64 C.K c.K)).imp λx y H Q h=>by
 obtain⟨φ,h,p,q,rh,rx,ry,po⟩:=h;obtain⟨b,e,po⟩:=po.ofB;cases e0:yJ p q h with
 |none=>rw[e0]at e;cases e
 |some b'=>
  rw[e0]at e;cases e
  rcases tK rh rx ry e0 with⟨d,e',h1,h2,h3,rfl⟩|⟨d,e',h1,h2,h3,rfl⟩
  ·exact .inl ⟨d,e',h1,h2,h3,po.val rh rfl⟩
  ·exact .inr ⟨d,e',h1,h2,h3,po.val rh rfl⟩
def oK:PV->Option Key
 |.int i=>some (.inl i)
 |.str x=>some (.inr x)
 |_=>none
def aM{κ:Type}[DecidableEq κ]:List (κ×PV)->κ->Option PV
 |[],_=>none
 |(a,p)::r,b=>if a=b then some p else aM r b
def yK(h:PH)(n:Nat)(x:PV):Option (Option PV):=match h[n]? with
 |some (.dK kvs)=>match oK x with
  |some key=>some (aM kvs key)
  |none=>none
 |_=>none
def tL(x:PV)(ys:List PV):Option Bool:=match x.d,PV.ds ys with
 |some d,some ds=>if D.depths ds<=40 then some (ds.any λe=>eqD e d) else none
 |_,_=>none
def Al(x y:PV)(h:PH):Option Bool:=match y with
 |.tup ys=>tL x ys
 |.ref n=>match aO h n with
  |some ys=>tL x ys
  |none=>(yK h n x).map Option.isSome
 |.fl ys=>tL x ys
 |_=>none
def vIn:PV->PV->PH->Rs PV:=λx y h=>ofB (Al x y h) h
def pV:PV->PV->PH->Rs PV:=λx y h=>ofB ((Al x y h).map not) h
theorem yL{x:PV}{key:Key}(r:RV C φ H x v)(e:oK x=some key):v=kV key:=by
 cases x <;> first|(cases e;exact r)|cases e
theorem pW{κ:Type}[DecidableEq κ]{kvs:List (κ×PV)}{ks:List (κ×V)}(r:RKv C φ H kvs ks)(a:κ):match aM kvs a,iD ks a with
  |some p,some v=>RV C φ H p v
  |none,none=>True
  |_,_=>False:=by
 unfold RKv at r
 induction r with
 |nil=>trivial
 | @cons p q ps qs h t ih=>
  obtain⟨h1,h2⟩:=h;obtain⟨pk,pv⟩:=p
  by_cases e:pk=a
  ·have e':q.1=a:=h1.symm.trans e;rw[nR e'];unfold aM;rw[if_pos e];exact h2
  ·have e':¬ q.1=a:=λz=>e (h1.trans z);rw[nT e'];unfold aM;rw[if_neg e];exact ih
set_option tactic.hygienic true in
theorem mH{x:PV}{o:Option PV}(rh:RH C φ H h)(ha:φ[n]?=some a)(rv:RV C φ H x v)(e:yK h n x=some o):
  ∃o',mF H a v o'/\o.isSome=o'.isSome/\∀p,o=some p->∃w,o'=some w/\RV C φ H p w:=by
 unfold yK at e;split at e
 ·rename_i kvs hk;split at e
  ·rename_i key ai;cases e
   obtain⟨ks,hH,rk⟩:=rh.at' n a _ ha hk;have q:=pW rk key;rw[yL rv ai];refine⟨iD ks key,mF.k hH,?_,λp hp=>?_⟩
   ·cases e1:aM kvs key <;> cases e2:iD ks key <;> rw[e1,e2]at q <;> first|rfl|exact q.elim
   ·rw[hp]at q;cases e2:iD ks key with
    |none=>rw[e2]at q;exact q.elim
    |some w=>rw[e2]at q;exact⟨w,rfl,q⟩
  ·cases e
 ·cases e
set_option tactic.hygienic true in
theorem tN{q:PV}{x:V}(rh:RH C φ H h)(rx:RV C φ H p x)(ry:RV C φ H q y)(e:Al p q h=some b):
  (∃d a ds vs,y=.ref a/\(SqL C.K H a vs\/SqT C.K H a vs)/\Rep C.K H d x/\cF C.K H ds vs/\D.depths ds<=40/\b=ds.any λe=>eqD e d)\/∃a o,y=.ref a/\mF H a x o/\b=o.isSome:=by
 have go:∀{a:Addr}{vs:List V}{ys:List PV},(SqL C.K H a vs\/SqT C.K H a vs)->RVs C φ H ys vs->tL p ys=some b->∃d a' ds vs,V.ref a=.ref a'/\(SqL C.K H a' vs\/SqT C.K H a' vs)/\Rep C.K H d x/\cF C.K H ds vs/\D.depths ds<=40/\b=ds.any λe=>eqD e d:=by
  intro a vs ys hs hr he;unfold tL at he;split at he
  ·rename_i d ds h1 h2;split at he
   ·rename_i hd;cases he
    exact⟨d,a,ds,vs,rfl,hs,rx.rep h1,hr.reps h2,hd,rfl⟩
   ·cases he
  ·cases he
 unfold Al at e;split at e
 ·obtain⟨a,vs,rfl,sa,ra⟩:=ry;exact .inl (go (.inr sa) ra e)
 ·rename_i n;obtain⟨a,rfl,ha⟩:=ry;split at e
  ·rename_i ys hl;obtain⟨a2,vs,au,sa,ra⟩:=cA rh hl;rw[ha]at au;cases au;exact .inl (go (.inl sa) ra e)
  ·cases e':yK h n p with
   |none=>rw[e']at e;cases e
   |some o=>
    rw[e']at e;cases e
    obtain⟨o',g,i,_⟩:=mH rh ha rx e';exact .inr ⟨a,o',rfl,g,i⟩
 ·obtain⟨a,vs,rfl,sa,ra⟩:=ry;exact .inl (go (.inl sa.sq) ra e)
 ·cases e
theorem O8:OpS C k X (Qn .In) vIn:=λc=>((JU c.hu64 C.K c.K).or (JN c.hu C.K c.K)).imp λx y H Q h=>by
 obtain⟨φ,h,p,q,rh,rx,ry,po⟩:=h;obtain⟨b,e,po⟩:=po.ofB;rcases tN rh rx ry e with⟨d,a,ds,vs,rfl,h1,h2,h3,h4,rfl⟩|⟨a,o,rfl,g,rfl⟩
 ·exact .inl ⟨d,a,ds,vs,rfl,h1,h2,h3,h4,po.val rh rfl⟩
 ·exact .inr (.inr ⟨a,o,rfl,g,po.val rh rfl⟩)
theorem Hm:OpS C k X (Qn .NotIn) pV:=λc=>((D6 c.hu64 C.K c.K).or (D0 c.hu C.K c.K)).imp λx y H Q h=>by
 obtain⟨φ,h,p,q,rh,rx,ry,po⟩:=h;obtain⟨b,e,po⟩:=po.ofB;cases e':Al p q h with
 |none=>rw[e']at e;cases e
 |some b'=>
  rw[e']at e;cases e
  rcases tN rh rx ry e' with⟨d,a,ds,vs,rfl,h1,h2,h3,h4,rfl⟩|⟨a,o,rfl,g,rfl⟩
  ·exact .inl ⟨d,a,ds,vs,rfl,h1,h2,h3,h4,po.val rh rfl⟩
  ·exact .inr (.inr ⟨a,o,rfl,g,po.val rh rfl⟩)
def tO:PV->Bool
 |.non=>true
 |_=>false
def vIs:PV->PV->PH->Rs PV:=λx y h=>match y with
 |.non=>.ok (.bl (tO x)) h
 |.bl b=>match x with
  |.bl a=>.ok (.bl (a == b)) h
  |_=>.bad
 |_=>.bad
def kC:PV->PV->PH->Rs PV:=λx y h=>match y with
 |.non=>.ok (.bl (!tO x)) h
 |.bl b=>match x with
  |.bl a=>.ok (.bl (!(a == b))) h
  |_=>.bad
 |_=>.bad
theorem RV.isNon(r:RV C φ H p v):decide (v=.non)=tO p:=by
 cases p with
 |non=>cases r;rfl
 |tup xs=>obtain⟨a,vs,rfl,_⟩:=r;rfl
 |ref n=>obtain⟨a,rfl,_⟩:=r;rfl
 |fl xs=>obtain⟨a,vs,rfl,_⟩:=r;rfl
 |_=>cases r;rfl
theorem Hn:OpS C k X (Qn .IsNot) kC:=λc=>(GE.or (λpins s σ H x y v u Q I rx ry(h:∃a b,x=.bl a/\y=.bl b/\Q (.bl (!(a == b))) H)=>by
  obtain⟨a,b,rfl,rfl,q⟩:=h;cases rx;cases ry;exact PyProof.Rows.isnot_bool ⟨.bl _,H,I,rfl,q⟩)).imp λx y H Q h=>by
 obtain⟨φ,h,p,q,rh,rx,ry,po⟩:=h;unfold kC at po;cases q with
 |non=>
  cases ry
  refine .inl ⟨rfl,?_⟩;rw[rx.isNon];exact po.val rh rfl
 |bl b=>
  cases p with
  |bl a=>cases rx;cases ry;exact .inr ⟨a,b,rfl,rfl,po.val rh rfl⟩
  |_=>exact po.elim
 |_=>exact po.elim
def tru(x:PV)(h:PH):Rs Bool:=match x with
 |.non=>.ok false h
 |.bl b=>.ok b h
 |.int i=>.ok (i != 0) h
 |.str y=>if y.length<=PP then .ok ((y.length:Int) != 0) h else .bad
 |.tup xs=>.ok (!xs.isEmpty) h
 |.ref n=>match aO h n with
  |some xs=>.ok (!xs.isEmpty) h
  |none=>match h[n]? with
   |some (.dK kvs)=>.ok (!kvs.isEmpty) h
   |_=>.bad
 |.fl xs=>.ok (!xs.isEmpty) h
 |.ty _=>.bad
theorem RVs.isEmpty(r:RVs C φ H xs vs):(!vs.isEmpty)=!xs.isEmpty:=by
 cases xs <;> cases vs <;> first|rfl|exact r.elim
theorem bD.ite{c:Prop}[Decidable c]{r:Rs Bool}{Q:Bool->Hp->Prop}(h:bD C φ H (if c then r else .bad) Q):c/\bD C φ H r Q:=by
 by_cases hc:c
 ·rw[if_pos hc]at h;exact⟨hc,h⟩
 ·rw[if_neg hc]at h;exact h.elim
theorem bD.val{Q:Bool->Hp->Prop}(q:bD C φ H (.ok b h) Q)(rh:RH C φ H h):Q b H:=q φ H PF (Kp.refl H) rh
set_option tactic.hygienic true in
theorem Dk{Q:Bool->Hp->Prop}(rh:RH C φ H h)(rv:RV C φ H p v)(po:bD C φ H (tru p h) Q):∃b,GG C.K v H b/\Q b H:=by
 unfold tru at po;cases p with
 |non=>cases rv;exact⟨_,rfl,po.val rh⟩
 |bl b=>cases rv;exact⟨_,rfl,po.val rh⟩
 |int i=>cases rv;exact⟨_,rfl,po.val rh⟩
 |str y=>cases rv;exact⟨_,⟨po.ite.1,rfl⟩,po.ite.2.val rh⟩
 |tup xs=>
  obtain⟨a,vs,rfl,sa,ra⟩:=rv;exact⟨_,.inr (.inl ⟨vs,sa,rfl⟩),by rw[ra.isEmpty];exact po.val rh⟩
 |ref n=>
  obtain⟨a,rfl,ha⟩:=rv;dsimp only at po;cases e:aO h n with
  |some xs=>
   rw[e]at po;obtain⟨a2,vs,au,sa,ra⟩:=cA rh e;rw[ha]at au;cases au;exact⟨_,.inl ⟨vs,sa,rfl⟩,by rw[ra.isEmpty];exact po.val rh⟩
  |none=>
   rw[e]at po;dsimp only at po;split at po
   ·rename_i kvs hk;obtain⟨ks,hH,rk⟩:=rh.at' n a _ ha hk;refine⟨_,.inr (.inr ⟨ks,hH,rfl⟩),?_⟩;have:(!ks.isEmpty)=!kvs.isEmpty:=by cases rk <;> rfl
    rw[this];exact po.val rh
   ·exact po.elim
 |fl xs=>
  obtain⟨a,vs,rfl,sa,ra⟩:=rv;exact⟨_,.inl ⟨vs,sa.sq,rfl⟩,by rw[ra.isEmpty];exact po.val rh⟩
 |ty n=>exact po.elim
open PySem PySem.Spec PyProof.Rows
variable{C:MC}{k:Nat}{X:Cx}
def aK(m:Me):Ev->PH->Rs Bool:=λδ h=>(m δ h).bind tru
variable{m:Me}
theorem EJ{Q:Bool->Hp->Prop}(h:rdB C (aK m) σ H Q):rd C m σ H λv H1=>∃b,GG C.K v H1 b/\Q b H1:=by
 obtain⟨φ,δ,h,rh,re,p⟩:=h;refine⟨φ,δ,h,rh,re,(post.bindB p).imp ?_⟩;rintro v H1 ⟨φ1,x,h1,p1,t1,aa,ab,q1⟩;exact Dk aa ab q1
section
variable{a b c':Expr}{mc:Me}{g g':PV->PV->PH->Rs PV}{ta tb:Ev->PH->Rs Bool}
theorem M0(h:SE C k X e m)(he:∀whole,isTrue e X.env whole=(do let v <-whole;standAt e.pos;holding [v] (truthy v)):=by intro _;rfl):ST C k X e (aK m):=λc=>
 (E7 (h c) he).imp λσ H Q q=>by rw[c.K];exact EJ q
theorem M1(ho:OpS C k X (Qn op) g)(ha:SE C k X a ma)(hb:SE C k X b mb)(hm:behindInMarks op b=false:=by first|exact E5 _|rfl):ST C k X (.Compare a [op] [b] pos) (aK (aB g ma mb)):=λc=>by
 intro pins s σ H Q I h;have h:=C1 (EJ h);refine wpAny_isTrue_Compare1 (thn (ha c pins s σ H _ I h) λv s1 ⟨x,H1,I1,r1,q1⟩=>thn (hb c pins s1 σ H1 _ I1 q1) λu s2 ⟨y,H2,I2,r2,q2⟩=>
  thn (ho c pins s2 σ H2 x y v u _ I2 r1 r2 q2) λw s3 ⟨z,H3,I3,r3,q3⟩=>?_) hm
 rw[<-c.K]at q3;exact E6 pins s3 σ H3 z w Q I3 r3 q3
def M3(z:PV)(h:PH):Rs PV:=match z with
 |.bl b=>.ok (.bl b) h
 |_=>.bad
def OG(g g':PV->PV->PH->Rs PV)(ma mb mc:Me):Me:=λδ h=>(ma δ h).bind λx h1=>(mb δ h1).bind λy h2=>(g x y h2).bind λz h3=>match z with
 |.bl true=>(mc δ h3).bind λw h4=>(g' y w h4).bind M3
 |.bl false=>.ok (.bl false) h3
 |_=>.bad
def lQ(t:Ev->PH->Rs Bool):Ev->PH->Rs Bool:=λδ h=>(t δ h).bind λb h1=>.ok (!b) h1
def jR(ta tb:Ev->PH->Rs Bool):Ev->PH->Rs Bool:=λδ h=>(ta δ h).bind λb h1=>match b with
 |true=>tb δ h1
 |false=>.ok false h1
def tQ(ta tb:Ev->PH->Rs Bool):Ev->PH->Rs Bool:=λδ h=>(ta δ h).bind λb h1=>match b with
 |true=>.ok true h1
 |false=>tb δ h1
theorem bD.imp{r:Rs Bool}{Q Q':Bool->Hp->Prop}(h:bD C φ H r Q)(i:∀v H',Q v H'->Q' v H'):bD C φ H r Q':=by
 cases r with
 |ok a h'=>exact λφ' H' p t rh=>i a H' (h φ' H' p t rh)
 |exc a h'=>exact h
 |bad=>exact h
theorem M4(h:ST C k X e ta):ST C k X (.UnaryOp .Not e pos) (lQ ta):=λc=>(Jb (h c)).imp λσ H Q q=>by
 obtain⟨φ,δ,h,rh,re,p⟩:=q;refine⟨φ,δ,h,rh,re,(bD.bindB p).imp ?_⟩;rintro b H1 ⟨φ1,h1,p1,t1,aa,q1⟩;exact q1.val aa
def SW(C:MC)(k:Nat)(X:Cx)(e:Expr)(m:Ev->PH->Rs Bool):Prop:=Cxt C k X->PW X e (rdB C m)
theorem SW.t(h:SW C k X e ta):ST C k X e ta:=λc=>(h c).pt
theorem PW.imp{t t':TT}(h:PW X e t)(i:∀σ H Q,t' σ H Q->t σ H Q):PW X e t':=λw pins s σ H Q I q=>h w pins s σ H Q I (i σ H Q q)
theorem K1(ha:ST C k X a ta):SW C k X (.BoolOp .And [a] pos) ta:=λc=>Gx (ha c)
theorem M5(ha:ST C k X a ta):SW C k X (.BoolOp .Or [a] pos) ta:=λc=>J' (ha c)
theorem w_and{rest:List Expr}(ha:ST C k X a ta)(hb:SW C k X (.BoolOp .And (b::rest) pos) tb):SW C k X (.BoolOp .And (a::b::rest) pos) (jR ta tb):=λc=>PW.imp (Ja (ha c) (hb c)) λσ H Q q=>by
 obtain⟨φ,δ,h,rh,re,p⟩:=q;refine⟨φ,δ,h,rh,re,(bD.bindB p).imp ?_⟩;rintro b H1 ⟨φ1,h1,p1,t1,aa,q1⟩;cases b with
 |true=>exact CU ⟨φ1,δ,h1,aa,re.mono p1 t1,q1⟩
 |false=>exact CT (q1.val aa)
theorem w_or{rest:List Expr}(ha:ST C k X a ta)(hb:SW C k X (.BoolOp .Or (b::rest) pos) tb):SW C k X (.BoolOp .Or (a::b::rest) pos) (tQ ta tb):=λc=>PW.imp (La (ha c) (hb c)) λσ H Q q=>by
 obtain⟨φ,δ,h,rh,re,p⟩:=q;refine⟨φ,δ,h,rh,re,(bD.bindB p).imp ?_⟩;rintro b H1 ⟨φ1,h1,p1,t1,aa,q1⟩;cases b with
 |true=>exact CU (q1.val aa)
 |false=>exact CT ⟨φ1,δ,h1,aa,re.mono p1 t1,q1⟩
def wK(ma mb:Me):Me:=λδ h=>(ma δ h).bind λx h1=>match x with
 |.bl true=>mb δ h1
 |.bl false=>.ok (.bl false) h1
 |_=>.bad
theorem M6{op}(h:SE C k X a ma):SE C k X (.BoolOp op [a] pos) ma:=λc=>Jc (h c)
theorem M7{rest:List Expr}(ha:SE C k X a ma)(hb:SE C k X (.BoolOp .And (b::rest) pos) mb):SE C k X (.BoolOp .And (a::b::rest) pos) (wK ma mb):=λc=>(Hd (ha c) (hb c)).imp λσ H Q q=>by
 obtain⟨φ,δ,h,rh,re,p⟩:=q;refine⟨φ,δ,h,rh,re,(post.bind p).imp ?_⟩;rintro v H1 ⟨φ1,x,h1,p1,t1,aa,rv,q1⟩;cases x with
 |bl b=>
  cases rv
  cases b with
  |true=>exact CU ⟨φ1,δ,h1,aa,re.mono p1 t1,q1⟩
  |false=>exact CT (q1.val aa rfl)
 |_=>exact q1.elim
def mIf(t:Ev->PH->Rs Bool)(ma mb:Me):Me:=λδ h=>(t δ h).bind λb h1=>match b with
 |true=>ma δ h1
 |false=>mb δ h1
theorem Ho(ht:ST C k X c' ta)(ha:SE C k X a ma)(hb:SE C k X b mb):SE C k X (.IfExp c' a b pos) (mIf ta ma mb):=λc=>(DY (ht c) (ha c) (hb c)).imp λσ H Q q=>by
 obtain⟨φ,δ,h,rh,re,p⟩:=q;refine⟨φ,δ,h,rh,re,(bD.bind p).imp ?_⟩;rintro b H1 ⟨φ1,h1,p1,t1,aa,q1⟩;cases b with
 |true=>exact CU ⟨φ1,δ,h1,aa,re.mono p1 t1,q1⟩
 |false=>exact CT ⟨φ1,δ,h1,aa,re.mono p1 t1,q1⟩
end
theorem RVs.atI{i:Int}{x:PV}(r:RVs C φ H xs vs)(e:L2.atI xs i=some x):∃v,L2.atI vs i=some v/\RV C φ H x v:=by
 unfold L2.atI at e⊢;rw[<-r.length];cases q:ixN xs.length i with
 |none=>rw[q]at e;cases e
 |some j=>
  rw[q]at e;exact r.at e
def ofO(o:Option PV)(h:PH):Rs PV:=match o with
 |some p=>.ok p h
 |none=>.bad
def vIx:PV->PV->PH->Rs PV:=λx y h=>match x with
 |.str z=>(match y with
  |.int i=>if z.length<=PP then ofO ((atI z.cps.toList i).map λc=>.str ⟨#[c]⟩) h else .bad
  |_=>.bad)
 |.tup xs=>(match y with
  |.int i=>ofO (atI xs i) h
  |_=>.bad)
 |.fl xs=>(match y with
  |.int i=>ofO (atI xs i) h
  |_=>.bad)
 |.ref n=>(match aO h n with
  |some xs=>(match y with
   |.int i=>ofO (atI xs i) h
   |_=>.bad)
  |none=>(match yK h n y with
   |some o=>ofO o h
   |none=>.bad))
 |_=>.bad
theorem post.ofO{o:Option PV}{Q:VK}(q:post C φ H (ofO o h) Q):∃p,o=some p/\post C φ H (.ok p h) Q:=by
 cases o with
 |none=>exact q.elim
 |some b=>exact⟨b,rfl,q⟩
theorem M8{x:V}{Q:VK}(h:r2 C vIx x y H Q):LD C.K x y H Q:=by
 obtain⟨φ,h,p,q,rh,rx,ry,po⟩:=h;unfold vIx at po;cases p with
 |str z=>
  cases rx
  cases q with
  |int i=>
   cases ry
   obtain⟨hz,po⟩:=po.ite;obtain⟨p,e,po⟩:=po.ofO;cases e':atI z.cps.toList i with
   |none=>rw[e']at e;cases e
   |some c=>rw[e']at e;cases e;exact⟨hz,c,e',po.val rh rfl⟩
  |_=>exact po.elim
 |tup xs=>
  obtain⟨a,vs,rfl,sa,ra⟩:=rx;cases q with
  |int i=>
   cases ry
   obtain⟨p,e,po⟩:=po.ofO;obtain⟨v,hv,rv⟩:=ra.atI e;exact .inl ⟨vs,i,v,rfl,.inr sa,hv,po.val rh rv⟩
  |_=>exact po.elim
 |fl xs=>
  obtain⟨a,vs,rfl,sa,ra⟩:=rx;cases q with
  |int i=>
   cases ry
   obtain⟨p,e,po⟩:=po.ofO;obtain⟨v,hv,rv⟩:=ra.atI e;exact .inl ⟨vs,i,v,rfl,.inl sa.sq,hv,po.val rh rv⟩
  |_=>exact po.elim
 |ref n=>
  obtain⟨a,rfl,ha⟩:=rx;dsimp only at po;cases e:aO h n with
  |some xs=>
   rw[e]at po;obtain⟨a2,vs,au,sa,ra⟩:=cA rh e;rw[ha]at au;cases au;cases q with
   |int i=>
    cases ry
    obtain⟨p,e,po⟩:=po.ofO;obtain⟨v,hv,rv⟩:=ra.atI e;exact .inl ⟨vs,i,v,rfl,.inl sa,hv,po.val rh rv⟩
   |_=>exact po.elim
  |none=>
   rw[e]at po;dsimp only at po;cases e':yK h n q with
   |none=>rw[e']at po;exact po.elim
   |some o=>
    rw[e']at po;obtain⟨p,eo,po⟩:=po.ofO;obtain⟨o',g,_,hp⟩:=mH rh ha ry e';obtain⟨w,rfl,cq⟩:=hp p eo;exact .inr ⟨w,g,po.val rh cq⟩
 |_=>exact po.elim
variable{vl vu:Value}
theorem lM{t sl:Addr}{lo hi:Option Int}(ht:IsTup s.heap t items)(hs:s.heap.IsSliceOf sl vl vu .none)(pl:IsPart vl lo)(pu:IsPart vu hi)(hw:HT.sIx items.size 0 lo=0/\HT.sIx items.size items.size hi=items.size)(h:Q (.ref t) s):wpAny (model prog w) A (getItem (.ref t) (.ref sl)) Q E s:=by
 obtain⟨os,j5,qi,j4⟩:=id hs;have q0:s.TypeIs (.ref sl) "slice" := ⟨os,j5,qi⟩;unfold getItem
 try with_reducible refine QZ ?_
 first|refine Pi (Px ?_)|skip
 refine Pi (wpAny_sequenceKey ht.typeIs (by decide) ?_);refine Pi (QH (name:=Pz "__getitem__") ht.typeIs QD
  (Qy QD ht.typeIs entry_tuple_getitem ?_ (args_tuple_getitem _ _)))
 show wpAny _ _ (SL (.ref t) >>= _) _ _ s
 refine Pi (tupleItemsOf_ ht ?_);refine Pi (wpAny_typeOf q0 ?_);rw[if_pos (by decide)];refine Pi (HT.sliceApplied_gen hs pl pu ?_);have l7:((((HT.sIx items.size 0 lo:Nat):Int) == 0&&(1:Int) == 1&&(HT.sIx items.size items.size hi-HT.sIx items.size 0 lo) == items.size)=true):=by
  rw[hw.1,hw.2];simp
 show wpAny _ _ (if(((HT.sIx items.size 0 lo:Nat):Int) == 0&&(1:Int) == 1&&(HT.sIx items.size items.size hi-HT.sIx items.size 0 lo) == items.size)=true then _ else _) _ _ s
 rw[if_pos l7];refine Pi ?_;unfold Builtin.Tuple.tupleIsExact;refine Pi (wpAny_typeOf ht.typeIs (Px ?_));rw[if_pos (by decide)];refine Pi (S6 ?_);exact Px ⟨_,rfl,Px h⟩
open PySem PySem.Spec PyProof.Rows
variable{C:MC}{k:Nat}{X:Cx}
def cN{α:Type}(xs:List α)(lo hi:Option Int):List α:=(xs.drop (HT.sIx xs.length 0 lo)).take (HT.sIx xs.length xs.length hi-HT.sIx xs.length 0 lo)
theorem RVs.cut(r:RVs C φ H xs vs)(lo hi:Option Int):RVs C φ H (cN xs lo hi) (A5 vs lo hi):=by
 unfold cN A5;rw[<-r.length];exact(r.drop _).take _
def vSl:PV->Option Int->Option Int->PH->Rs PV:=λx lo hi h=>match x with
 |.str z=>if z.length<=PP then .ok (.str (Sv z lo hi)) h else .bad
 |.tup xs=>.ok (.tup (cN xs lo hi)) h
 |.ref n=>match aO h n with
  |some xs=>.ok (.ref h.length) (h++[.lst (cN xs lo hi)])
  |none=>.bad
 |.fl xs=>.ok (.ref h.length) (h++[.lst (cN xs lo hi)])
 |_=>.bad
def M9(K:Py):V->Option Int->Option Int->Hp->VK->Prop:=λx lo hi H Q=>∃a xs,x=.ref a/\SqT K H a xs/\(HT.sIx xs.length 0 lo=0/\HT.sIx xs.length xs.length hi=xs.length)/\Q (.ref a) H
theorem EK:SlR X (M9 X.K):=by
 intro pins s σ H x v vl vu lo hi sl Q I rx hs pl pu h;obtain⟨a,xs,rfl,hx,hw,q⟩:=h;cases rx
 obtain⟨its,r,ht,hz⟩:=I.tuple hx;have hlen:its.toArray.size=xs.length:=by rw[PJ];exact r.length.symm
 refine⟨"tuple",_,QD.lookup,ht.typeIs,?_⟩;exact lM ht hs pl pu (by rw[hlen];exact hw) ⟨.ref a,H,I,rfl,q⟩
variable{r r':V->Option Int->Option Int->Hp->VK->Prop}
theorem SlR.imp(h:SlR X r)(i:∀x lo hi H Q,r' x lo hi H Q->r x lo hi H Q):SlR X r':=λpins s σ H x v vl vu lo hi sl Q I rx hs pl pu q=>h pins s σ H x v vl vu lo hi sl Q I rx hs pl pu (i x lo hi H Q q)
def r3(C:MC)(g:PV->Option Int->Option Int->PH->Rs PV):V->Option Int->Option Int->Hp->VK->Prop:=λx lo hi H Q=>∃φ h p,RH C φ H h/\RV C φ H p x/\post C φ H (g p lo hi h) Q
theorem K2(hK:X.K=C.K):SlR X (r3 C vSl):=by
 have e:SlR X (λx lo hi H Q=>LA x lo hi H Q\/Lp C.K x lo hi H Q\/Ls C.K x lo hi H Q\/M9 C.K x lo hi H Q):=by rw[<-hK];exact JJ.or (Jx.or (GR.or EK))
 refine e.imp λx lo hi H Q h=>?_;obtain⟨φ,h,p,rh,rv,po⟩:=h;unfold vSl at po;cases p with
 |str z=>cases rv;exact .inl ⟨z,rfl,po.ite.1,po.ite.2.val rh rfl⟩
 |tup xs=>
  obtain⟨a,vs,rfl,sa,ra⟩:=rv
  by_cases hw:HT.sIx vs.length 0 lo=0/\HT.sIx vs.length vs.length hi=vs.length
  ·refine .inr (.inr (.inr ⟨a,vs,rfl,sa,hw,po.val rh ⟨a,vs,rfl,sa,?_⟩⟩));have e:cN xs lo hi=xs:=by
    unfold cN;rw[ra.length,hw.1,hw.2,List.drop_zero,Nat.sub_zero,<-ra.length,RF]
   rw[e];exact ra
  ·exact .inr (.inl ⟨a,vs,rfl,sa,hw,λp hp=>po.tnew rh (ra.cut lo hi) hp⟩)
 |ref n=>
  obtain⟨a,rfl,ha⟩:=rv;dsimp only at po;cases e:aO h n with
  |none=>rw[e]at po;exact po.elim
  |some xs=>
   rw[e]at po;obtain⟨a2,vs,au,sa,ra⟩:=cA rh e;rw[ha]at au;cases au;exact .inr (.inr (.inl ⟨a,vs,rfl,sa,λp hp=>po.lnew rh (ra.cut lo hi) hp⟩))
 |fl xs=>
  obtain⟨a,vs,rfl,sa,ra⟩:=rv;exact .inr (.inr (.inl ⟨a,vs,rfl,sa.sq,λp hp=>po.lnew rh (ra.cut lo hi) hp⟩))
 |_=>exact po.elim
abbrev Mo:=Ev->PH->Rs (Option Int)
def rJ(C:MC)(φ:List Addr)(H:Hp)(r:Rs (Option Int))(Q:Option Int->Hp->Prop):Prop:=match r with
 |.ok b h=>∀φ' H',φ<+:φ'->Kp H H'->RH C φ' H' h->Q b H'
 |.exc x h=>∀φ' H',φ<+:φ'->Kp H H'->RH C φ' H' h->C.ex φ' H' x
 |.bad=>False
def rdO(C:MC)(m:Mo):TO:=λσ H Q=>∃φ δ h,RH C φ H h/\RE C φ H δ σ/\rJ C φ H (m δ h) Q
def SO(C:MC)(k:Nat)(X:Cx)(e:Option Expr)(m:Mo):Prop:=Cxt C k X->PO X e (rdO C m)
def kE:Mo:=λ_ h=>.ok none h
def mP(m:Me):Mo:=λδ h=>(m δ h).bind λx h1=>match x with
 |.int i=>.ok (some i) h1
 |_=>.bad
theorem K3:SO C k X none kE:=λc pins s σ H Q I h=>by
 obtain⟨φ,δ,h,rh,re,p⟩:=h;exact GO pins s σ H Q I (p φ H PF (Kp.refl H) rh)
theorem K4(h:SE C k X e m):SO C k X (some e) (mP m):=λc pins s σ H Q I q=>by
 refine Ep (h c) pins s σ H Q I ?_;obtain⟨φ,δ,h,rh,re,p⟩:=q;refine⟨φ,δ,h,rh,re,?_⟩;unfold mP at p;cases e':m δ h with
 |ok x h1=>
  rw[e']at p;intro φ' v H' p' t' bt ax;cases x with
  |int i=>cases ax;exact p φ' H' p' t' bt
  |_=>exact p.elim
 |exc x h1=>rw[e']at p;exact p
 |bad=>rw[e']at p;exact p
def mSl(me:Me)(ml mh:Mo):Me:=λδ h=>(me δ h).bind λx h1=>(ml δ h1).bind λl h2=>(mh δ h2).bind λu h3=>vSl x l u h3
theorem rJ.bind{r:Rs (Option Int)}{f:Option Int->PH->Rs PV}{Q:VK}(h:post C φ H (r.bind f) Q):rJ C φ H r λb H1=>∃φ1 h1,φ<+:φ1/\Kp H H1/\RH C φ1 H1 h1/\post C φ1 H1 (f b h1) Q:=by
 cases r with
 |ok a h'=>exact λφ' H' p t rh=>⟨φ',h',p,t,rh,post.weak p t h⟩
 |exc a h'=>exact h
 |bad=>exact h
variable{Q':Option Int->Hp->Prop}
theorem rJ.imp{r:Rs (Option Int)}{Q:Option Int->Hp->Prop}(h:rJ C φ H r Q)(i:∀v H',Q v H'->Q' v H'):rJ C φ H r Q':=by
 cases r with
 |ok a h'=>exact λφ' H' p t rh=>i a H' (h φ' H' p t rh)
 |exc a h'=>exact h
 |bad=>exact h
variable{hi lo:Option Expr}{me:Me}{mh ml:Mo}{p2:Pos}
theorem O9(he:SE C k X e me)(hl:SO C k X lo ml)(hh:SO C k X hi mh):SE C k X (.Subscript e (.Slice lo hi none p2) pos) (mSl me ml mh):=λc=>
 (Eg (K2 c.K) (he c) (hl c) (hh c)).imp λσ H Q h=>by
  obtain⟨φ,δ,h,rh,re,p⟩:=h;refine⟨φ,δ,h,rh,re,(post.bind p).imp ?_⟩;rintro v H1 ⟨φ1,x,h1,p1,t1,aa,ab,q1⟩;refine⟨φ1,δ,h1,aa,re.mono p1 t1,(rJ.bind q1).imp ?_⟩;rintro l H2 ⟨φ2,h2,p2,t2,ah,q2⟩;refine⟨φ2,δ,h2,ah,re.mono (p1.trans p2) (t1.trans t2),(rJ.bind q2).imp ?_⟩;rintro u H3 ⟨φ3,h3,p3,t3,c8,q3⟩;exact⟨φ3,h3,x,c8,ab.mono (p2.trans p3) (t2.trans t3),q3⟩
abbrev Ma:=Ev->PH->Rs (List PV)
def aC:Ma:=λ_ h=>.ok [] h
def aA(m:Me)(ms:Ma):Ma:=λδ h=>(m δ h).bind λx h1=>(ms δ h1).bind λxs h2=>.ok (x::xs) h2
theorem PA.imp{t t':TA}(h:PA X es t)(i:∀σ H Q,t' σ H Q->t σ H Q):PA X es t':=λpos pins s σ H Q I q=>h pos pins s σ H Q I (i σ H Q q)
theorem Mb:SA C k X [] aC:=λc=>xS.imp λσ H Q h=>by
 obtain⟨φ,δ,h,rh,re,p⟩:=h;exact p φ [] H PF (Kp.refl H) rh trivial
theorem postA.imp{r:Rs (List PV)}{Q Q':List V->Hp->Prop}(h:postA C φ H r Q)(i:∀v H',Q v H'->Q' v H'):postA C φ H r Q':=by
 cases r with
 |ok a h'=>exact λφ' v H' p t rh rv=>i v H' (h φ' v H' p t rh rv)
 |exc a h'=>exact h
 |bad=>exact h
variable{ms:Ma}
theorem K5(he:SE C k X e m)(hs:SA C k X es ms)(hh:P3 (e::es) X.env=(false,eval e X.env)::P3 es X.env:=by rfl):SA C k X (e::es) (aA m ms):=λc=>(rY (he c) (hs c) hh).imp λσ H Q h=>by
 obtain⟨φ,δ,h,rh,re,p⟩:=h;refine⟨φ,δ,h,rh,re,(post.bindA p).imp ?_⟩;rintro v H1 ⟨φ1,x,h1,p1,t1,aa,ab,q1⟩;refine⟨φ1,δ,h1,aa,re.mono p1 t1,(postA.bindA q1).imp ?_⟩;rintro vs H2 ⟨φ2,xs,h2,p2,t2,ah,b8,q2⟩;exact q2 φ2 (v::vs) H2 PF (Kp.refl H2) ah ⟨ab.mono p2 t2,b8⟩
def bK(ms:Ma):Me:=λδ h=>(ms δ h).bind λxs h1=>if xs.length<=PP then .ok (.tup xs) h1 else .bad
def eJ(ms:Ma):Me:=λδ h=>(ms δ h).bind λxs h1=>if xs.length<=PP then .ok (.ref h1.length) (h1++[.lst xs]) else .bad
theorem Mc{x1}(hs:SA C k X es ms):SE C k X (.Tuple es x1 pos) (bK ms):=λc=>(Ju (hs c)).imp λσ H Q h=>by
 obtain⟨φ,δ,h,rh,re,p⟩:=h;refine⟨φ,δ,h,rh,re,(postA.bind p).imp ?_⟩;rintro vs H1 ⟨φ1,xs,h1,p1,t1,aa,ab,q1⟩;exact⟨by rw[<-ab.length];exact q1.ite.1,λp hp=>q1.ite.2.tnew aa ab hp⟩
theorem Md(hs:SA C k X es ms):SE C k X (.List es pos) (eJ ms):=λc=>(Jv (hs c)).imp λσ H Q h=>by
 obtain⟨φ,δ,h,rh,re,p⟩:=h;refine⟨φ,δ,h,rh,re,(postA.bind p).imp ?_⟩;rintro vs H1 ⟨φ1,xs,h1,p1,t1,aa,ab,q1⟩;exact⟨by rw[<-ab.length];exact q1.ite.1,λp hp=>q1.ite.2.lnew aa ab hp⟩
def cK:Me:=λ_ h=>.ok (.ref h.length) (h++[.dK []])
theorem Hq:SE C k X (.Dict [] [] pos) cK:=λc=>Em.imp λσ H Q h=>by
 obtain⟨φ,δ,h,rh,re,p⟩:=h;intro a ha;exact p (φ++[a]) (.ref a) _ (QB _ _) (Kp.new ha) (rh.new ha ⟨[],aJ,.nil⟩) ⟨a,rfl,by rw[<-rh.len];simp⟩
def mCB(g:List PV->PH->Rs PV)(ms:Ma):Me:=λδ h=>(ms δ h).bind g
theorem IU{g:List PV->PH->Rs PV}{Q:VK}(h:rd C (mCB g ms) σ H Q):tCB (rL C g) (rdA C ms) σ H Q:=by
 obtain⟨φ,δ,h,rh,re,p⟩:=h;refine⟨φ,δ,h,rh,re,(postA.bind p).imp ?_⟩;rintro vs H1 ⟨φ1,xs,h1,p1,t1,aa,ab,q1⟩;exact⟨φ1,h1,xs,aa,ab,q1⟩
theorem oM{p:Pos}{id:String}{g:List PV->PH->Rs PV}(hc:oI C k X (.builtin id) g)(hv:RT x=some (.builtin id))(ha:SA C k X (e::es) ms)(hb:x∈C.bs:=by decide)(hg:Gl X x:=by rfl)(hn:x≠"__name__" := by decide)(b0:(x == ("__debug__" : Str))=false:=by decide)(he:P3 (e::es) X.env=(false,eval e X.env)::P3 es X.env:=by rfl)(bg:(backTo pos (P3 es X.env)).any (·.1)=false:=by rfl):SE C k X (.Call (.Name x p) (e::es) [] pos) (mCB g ms):=λc=>
 (Ee (hc c) hg (c.bn x hb) hv (ha c) hn b0 he bg).imp λσ H Q h=>IU h
variable{T:String}
theorem Am{p:Pos}{g:List PV->PH->Rs PV}(hc:oI C k X (.type T) g)(hv:RT x=some (.type T))(ha:SA C k X (e::es) ms)(hb:x∈C.bs:=by decide)(hg:Gl X x:=by rfl)(hn:x≠"__name__" := by decide)(b0:(x == ("__debug__" : Str))=false:=by decide)(he:P3 (e::es) X.env=(false,eval e X.env)::P3 es X.env:=by rfl)(bg:(backTo pos (P3 es X.env)).any (·.1)=false:=by rfl):SE C k X (.Call (.Name x p) (e::es) [] pos) (mCB g ms):=λc=>
 (CO (hc c) hg (c.bn x hb) hv (ha c) hn b0 he bg).imp λσ H Q h=>IU h
def spM(C:MC)(n:Nat)(f:Fn):Sp:=λvs H Q _=>∃φ h ps,RH C φ H h/\RVs C φ H ps vs/\ps.length=n/\post C φ H (f ps h) Q
def aL(n:Nat)(f:Fn)(ms:Ma):Me:=λδ h=>(ms δ h).bind λps h1=>if ps.length=n then f ps h1 else .bad
variable{j:Nat}
theorem s_call{p:Pos}{f:Fn}(D:Def C.K X.mg x st a fd ps)(G:cE X.prog X.w C.K X.mg X.base CX0 j a fd ps (spM C n f))(ha:SA C k X (e::es) ms)(hj:j<=k:=by decide)(hg:Gl X x:=by rfl)(b0:(x == ("__debug__" : Str))=false:=by decide)(he:P3 (e::es) X.env=(false,eval e X.env)::P3 es X.env:=by rfl)(bg:(backTo pos (P3 es X.env)).any (·.1)=false:=by rfl):
  SE C k X (.Call (.Name x p) (e::es) [] pos) (aL n f ms):=λc=>by
 have e1:=c.K;have D':Def X.K X.mg x st a fd ps:=by rw[e1];exact D
 have G':cE X.prog X.w X.K X.mg X.base CX0 j a fd ps (spM C n f):=by rw[e1];exact G
 refine(LK D' G' (c.room.mono hj) (ha c) hg b0 he bg).imp λσ H Q h=>?_;obtain⟨φ,δ,h,rh,re,p⟩:=h;refine⟨φ,δ,h,rh,re,(postA.bind p).imp ?_⟩;rintro vs H1 ⟨φ1,xs,h1,p1,t1,aa,ab,q1⟩;refine⟨φ1,h1,xs,aa,by rw[Ru];exact ab,q1.ite.1,q1.ite.2⟩
def tR:List PV->PH->Rs PV:=λxs h=>match xs with
 |[.str y]=>if y.length<=PP then .ok (.int y.length) h else .bad
 |[.tup ys]=>.ok (.int ys.length) h
 |[.fl ys]=>.ok (.int ys.length) h
 |[.ref n]=>match aO h n with
  |some ys=>.ok (.int ys.length) h
  |none=>match h[n]? with
   |some (.dK kvs)=>.ok (.int kvs.length) h
   |_=>.bad
 |_=>.bad
theorem RVs.one{x:PV}(r:RVs C φ H [x] vs):∃v,vs=[v]/\RV C φ H x v:=by
 match vs,r with
 |[v],⟨h,_⟩=>exact⟨v,rfl,h⟩
 |[],h=>exact h.elim
 |_::_::_,⟨_,h⟩=>exact h.elim
theorem RVs.two{x y:PV}(r:RVs C φ H [x,y] vs):∃v w,vs=[v,w]/\RV C φ H x v/\RV C φ H y w:=by
 match vs,r with
 |[v,w],⟨h,h',_⟩=>exact⟨v,w,rfl,h,h'⟩
 |[],h=>exact h.elim
 |[_],⟨_,h⟩=>exact h.elim
 |_::_::_::_,⟨_,_,h⟩=>exact h.elim
set_option tactic.hygienic true in
theorem Mf:oI C k X (.builtin "len") tR:=λc=>(D3 C.K c.K).imp λvs H Q h=>by
 obtain⟨φ,h,ps,rh,rv,po⟩:=h;unfold tR at po;split at po
 ·obtain⟨v,rfl,rx⟩:=rv.one;cases rx
  exact⟨po.ite.1,po.ite.2.val rh rfl⟩
 ·obtain⟨v,rfl,rx⟩:=rv.one;obtain⟨a,vs,rfl,sa,ra⟩:=rx;exact .inl ⟨vs,.inr sa,by rw[<-ra.length];exact po.val rh rfl⟩
 ·obtain⟨v,rfl,rx⟩:=rv.one;obtain⟨a,vs,rfl,sa,ra⟩:=rx;exact .inl ⟨vs,.inl sa.sq,by rw[<-ra.length];exact po.val rh rfl⟩
 ·rename_i n;obtain⟨v,rfl,rx⟩:=rv.one;obtain⟨a,rfl,ha⟩:=rx;split at po
  ·rename_i ys e;obtain⟨a2,vs,au,sa,ra⟩:=cA rh e;rw[ha]at au;cases au;exact .inl ⟨vs,.inl sa,by rw[<-ra.length];exact po.val rh rfl⟩
  ·split at po
   ·rename_i kvs hk;obtain⟨ks,hH,rk⟩:=rh.at' n a _ ha hk;refine .inr ⟨ks,hH,?_⟩;have:ks.length=kvs.length:=(Qz rk).symm;rw[this];exact po.val rh rfl
   ·exact po.elim
 ·exact po.elim
def pX:List PV->PH->Rs PV:=λxs h=>match xs with
 |[.tup ys]=>.ok (.tup ys) h
 |[.fl ys]=>.ok (.tup ys) h
 |[.ref n]=>match aO h n with
  |some ys=>.ok (.tup ys) h
  |none=>.bad
 |_=>.bad
set_option tactic.hygienic true in
theorem Hr:oI C k X (.type "tuple") pX:=λc=>(Aa C.K c.K).imp λvs H Q h=>by
 obtain⟨φ,h,ps,rh,rv,po⟩:=h;unfold pX at po;split at po
 ·obtain⟨v,rfl,rx⟩:=rv.one;obtain⟨a,vs,rfl,sa,ra⟩:=rx;exact⟨a,vs,rfl,.inr ⟨sa,po.val rh ⟨a,vs,rfl,sa,ra⟩⟩⟩
 ·obtain⟨v,rfl,rx⟩:=rv.one;obtain⟨a,vs,rfl,sa,ra⟩:=rx;exact⟨a,vs,rfl,.inl ⟨sa.sq,λp hp=>po.tnew rh ra hp⟩⟩
 ·rename_i n;obtain⟨v,rfl,rx⟩:=rv.one;obtain⟨a,rfl,ha⟩:=rx;split at po
  ·rename_i ys e;obtain⟨a2,vs,au,sa,ra⟩:=cA rh e;rw[ha]at au;cases au;exact⟨a,vs,rfl,.inl ⟨sa,λp hp=>po.tnew rh ra hp⟩⟩
  ·exact po.elim
 ·exact po.elim
def wL:List PV->PH->Rs PV:=λxs h=>match xs with
 |[.tup ys]=>.ok (.ref h.length) (h++[.lst ys])
 |[.fl ys]=>.ok (.ref h.length) (h++[.lst ys])
 |[.ref n]=>match aO h n with
  |some ys=>.ok (.ref h.length) (h++[.lst ys])
  |none=>.bad
 |_=>.bad
set_option tactic.hygienic true in
theorem K6:oI C k X (.type "list") wL:=λc=>(B7 C.K c.K).imp λvs H Q h=>by
 obtain⟨φ,h,ps,rh,rv,po⟩:=h;unfold wL at po;split at po
 ·obtain⟨v,rfl,rx⟩:=rv.one;obtain⟨a,vs,rfl,sa,ra⟩:=rx;exact⟨a,vs,rfl,.inr sa,λp hp=>po.lnew rh ra hp⟩
 ·obtain⟨v,rfl,rx⟩:=rv.one;obtain⟨a,vs,rfl,sa,ra⟩:=rx;exact⟨a,vs,rfl,.inl sa.sq,λp hp=>po.lnew rh ra hp⟩
 ·rename_i n;obtain⟨v,rfl,rx⟩:=rv.one;obtain⟨a,rfl,ha⟩:=rx;split at po
  ·rename_i ys e;obtain⟨a2,vs,au,sa,ra⟩:=cA rh e;rw[ha]at au;cases au;exact⟨a,vs,rfl,.inl sa,λp hp=>po.lnew rh ra hp⟩
  ·exact po.elim
 ·exact po.elim
def EL:List PV->PH->Rs PV:=λxs h=>match xs with
 |[.int i,.int j]=>.ok (.int (if j>i then j else i)) h
 |_=>.bad
theorem Mh:oI C k X (.builtin "max") EL:=λc=>(D4 c.calm).imp λvs H Q h=>by
 obtain⟨φ,h,ps,rh,rv,po⟩:=h;unfold EL at po;split at po
 ·obtain⟨v,w,rfl,rx,ry⟩:=rv.two;cases rx;cases ry;exact po.val rh rfl
 ·exact po.elim
open PySem PySem.Spec PyProof.Rows
variable{C:MC}{k:Nat}{X:Cx}
def Rs.fl{α:Type}(r:Rs α)(f:α->PH->Fl):Fl:=match r with
 |.ok a h=>f a h
 |.exc x h=>.exc x h
 |.bad=>.bad
@[simp]theorem Rs.fl_ok{α:Type}(a:α)(h:PH)(f:α->PH->Fl):(Rs.ok a h).fl f=f a h:=(rfl)
theorem post.fl{r:Rs PV}{f:PV->PH->Fl}{D:Ends}(h:bN C φ H (r.fl f) D):post C φ H r λv H1=>∃φ1 p h1,φ<+:φ1/\Kp H H1/\RH C φ1 H1 h1/\RV C φ1 H1 p v/\bN C φ1 H1 (f p h1) D:=by
 cases r with
 |ok a h'=>exact λφ' v H' p t rh rv=>⟨φ',a,h',p,t,rh,rv,bN.weak p t h⟩
 |exc a h'=>exact h
 |bad=>exact h
theorem bD.fl{r:Rs Bool}{f:Bool->PH->Fl}{D:Ends}(h:bN C φ H (r.fl f) D):bD C φ H r λb H1=>∃φ1 h1,φ<+:φ1/\Kp H H1/\RH C φ1 H1 h1/\bN C φ1 H1 (f b h1) D:=by
 cases r with
 |ok a h'=>exact λφ' H' p t rh=>⟨φ',h',p,t,rh,bN.weak p t h⟩
 |exc a h'=>exact h
 |bad=>exact h
theorem bN.nx{D:Ends}(q:bN C φ H (.nx δ h) D)(rh:RH C φ H h)(re:RE C φ H δ σ):D.nx σ H:=q φ σ H PF (Kp.refl H) rh re
theorem bN.rt{D:Ends}(q:bN C φ H (.rt p h) D)(rh:RH C φ H h)(rv:RV C φ H p v):D.rt v H:=q φ v H PF (Kp.refl H) rh rv
abbrev Mg:=PV->Ev->Option Ev
abbrev Mgs:=List PV->Ev->Option Ev
def rdG(C:MC)(t:Mg):TG:=λv σ H Q=>∃φ δ h p δ',RH C φ H h/\RE C φ H δ σ/\RV C φ H p v/\t p δ=some δ'/\∀σ',RE C φ H δ' σ'->Q σ' H
def Oa(C:MC)(t:Mgs):TGs:=λvs σ H Q=>∃φ δ h ps δ',RH C φ H h/\RE C φ H δ σ/\RVs C φ H ps vs/\t ps δ=some δ'/\∀σ',RE C φ H δ' σ'->Q σ' H
def SG(C:MC)(k:Nat)(X:Cx)(e:Expr)(t:Mg):Prop:=Cxt C k X->PG X e (rdG C t)
def SGs(C:MC)(k:Nat)(X:Cx)(es:List Expr)(t:Mgs):Prop:=Cxt C k X->PGs X es (Oa C t)
def gN(i:Nat):Mg:=λp δ=>some (δ.set i (some p))
def gNl:Mgs:=λps δ=>match ps with
 |[]=>some δ
 |_::_=>none
def gCn(t:Mg)(u:Mgs):Mgs:=λps δ=>match ps with
 |p::r=>(t p δ).bind (u r)
 |[]=>none
def gTp(n:Nat)(u:Mgs):Mg:=λp δ=>match p with
 |.tup ps=>if ps.length=n then u ps δ else none
 |_=>none
theorem PG.imp{t t':TG}(h:PG X e t)(i:∀v σ H Q,t' v σ H Q->t v σ H Q):PG X e t':=λpins s σ H v u Q I r q=>h pins s σ H v u Q I r (i v σ H Q q)
theorem PGs.imp{t t':TGs}(h:PGs X es t)(i:∀v σ H Q,t' v σ H Q->t v σ H Q):PGs X es t':=λpins s σ H v u Q I r q=>h pins s σ H v u Q I r (i v σ H Q q)
theorem K7(hN:X.N.Nodup)(hi:X.N[i]?=some x:=by rfl)(hx:Loc X.env.scope x:=by first|exact Or.inl rfl|exact Or.inr rfl)(hf:X.fn x=true\/X.env.scope.names.lookup x=some .local:=by first|exact .inl rfl|exact .inr rfl):SG C k X (.Name x pos) (gN i):=λc=>
 (GB hN hi hx hf).imp λv σ H Q h=>by
  obtain⟨φ,δ,h,p,δ',rh,re,rv,e,q⟩:=h;cases e
  exact q _ (re.set rv i)
theorem Mj:SGs C k X [] gNl:=λc=>GC.imp λv σ H Q h=>by
 obtain⟨φ,δ,h,ps,δ',rh,re,rv,e,q⟩:=h;cases ps with
 |nil=>
  cases e
  cases v with
  |nil=>exact⟨rfl,q σ re⟩
  |cons=>exact rv.elim
 |cons=>cases e
theorem K8{t:Mg}{u:Mgs}(h1:SG C k X e t)(h2:SGs C k X es u)(hs:(RS (e::es) X.env).map (·.2)=assign e X.env::(RS es X.env).map (·.2):=by rfl):SGs C k X (e::es) (gCn t u):=λc=>
 (E2 (h1 c) (h2 c) hs).imp λvs σ H Q h=>by
  obtain⟨φ,δ,h,ps,δ',rh,re,rv,e,q⟩:=h;cases ps with
  |nil=>cases e
  |cons p r=>
   cases vs with
   |nil=>exact rv.elim
   |cons v vs=>
    obtain⟨δ1,e1,e2⟩:=Option.bind_eq_some_iff.mp (show(t p δ).bind (u r)=some δ' from e)
    exact⟨v,vs,rfl,φ,δ,h,p,δ1,rh,re,rv.1,e1,λσ' qh=>⟨φ,δ1,h,r,δ',rh,qh,rv.2,e2,q⟩⟩
theorem Ml{u:Mgs}(h:SGs C k X es u)(hn:(RS es X.env).length=n:=by rfl)(e7:(RS es X.env).findIdx? (·.1)=none:=by rfl):SG C k X (.Tuple es j pos) (gTp n u):=λc=>
 (gT C.K c.K c.calm (h c) hn e7).imp λv σ H Q h=>by
  obtain⟨φ,δ,h,p,δ',rh,re,rv,e,q⟩:=h;cases p with
  |tup ps=>
   obtain⟨a,vs,rfl,sa,ra⟩:=rv
   by_cases hl:ps.length=n
   ·have e':u ps δ=some δ':=by
     have:(if ps.length=n then u ps δ else none)=some δ':=e;rw[if_pos hl]at this;exact this
    exact⟨a,vs,rfl,sa,by rw[<-ra.length];exact hl,φ,δ,h,ps,δ',rh,re,ra,e',q⟩
   ·have:(if ps.length=n then u ps δ else none)=some δ':=e;rw[if_neg hl]at this;cases this
  |_=>cases e
theorem PS.imp{t t':TS}(h:PS X st t)(i:∀D σ H,t' D σ H->t D σ H):PS X st t':=λpins s σ H D I q=>h pins s σ H D I (i D σ H q)
theorem PSs.imp{st:List Stmt}{t t':TS}(h:PSs X st t)(i:∀D σ H,t' D σ H->t D σ H):PSs X st t':=λpins s σ H D I q=>h pins s σ H D I (i D σ H q)
def aG(a b:Ms):Ms:=λδ h=>match a δ h with
 |.nx δ1 h1=>b δ1 h1
 |r=>r
def bP:Ms:=λδ h=>.nx δ h
def Hs:Ms:=λδ h=>.ct δ h
def aS(i:Nat)(m:Me):Ms:=λδ h=>(m δ h).fl λp h1=>.nx (δ.set i (some p)) h1
def kF(m:Me)(t:Mg):Ms:=λδ h=>(m δ h).fl λp h1=>match t p δ with
 |some δ'=>.nx δ' h1
 |none=>.bad
def kG(m:Me):Ms:=λδ h=>(m δ h).fl λ_ h1=>.nx δ h1
def aV(m:Me):Ms:=λδ h=>(m δ h).fl λp h1=>.rt p h1
def aX(t:Ev->PH->Rs Bool)(a b:Ms):Ms:=λδ h=>(t δ h).fl λc h1=>match c with
 |true=>a δ h1
 |false=>b δ h1
theorem K9:SSs C k X [] bP:=λc=>Gy.imp λD σ H h=>by
 obtain⟨φ,δ,h,rh,re,p⟩:=h;exact p.nx rh re
theorem K'{r:Fl}{b:Ms}{D:Ends}(h:bN C φ H (match r with|.nx δ1 h1=>b δ1 h1|r=>r) D):bN C φ H r { D with nx:=rdS C b D }:=by
 cases r with
 |nx δ h'=>exact λφ' σ H' p t rh re=>⟨φ',δ,h',rh,re,bN.weak p t h⟩
 |rt p h'=>exact h
 |bk δ h'=>exact h
 |ct δ h'=>exact h
 |exc x h'=>exact h
 |bad=>exact h
theorem Ht{rest:List Stmt}{a:Ms}{b:Ms}(h1:SSt C k X st a)(h2:SSs C k X rest b):SSs C k X (st::rest) (aG a b):=λc=>(DZ (h1 c) (h2 c)).imp λD σ H h=>by
 obtain⟨φ,δ,h,rh,re,p⟩:=h;exact⟨φ,δ,h,rh,re,K' p⟩
theorem Ka{a:Ms}(h1:SSt C k X st a):SSs C k X [st] a:=λc=>Gz (h1 c)
theorem Mm:SSt C k X (.Continue pos) Hs:=λc=>zY.imp λD σ H h=>by
 obtain⟨φ,δ,h,rh,re,p⟩:=h;exact p φ σ H PF (Kp.refl H) rh re
theorem Mn(hN:X.N.Nodup)(he:SE C k X e m)(hi:X.N[i]?=some x:=by rfl)(hx:Loc X.env.scope x:=by first|exact Or.inl rfl|exact Or.inr rfl)(hs:S8 e (some (.Name x pos')) pos.line X.env=pure false:=by rfl)(hf:X.fn x=true\/X.env.scope.names.lookup x=some .local:=by first|exact .inl rfl|exact .inr rfl):SSt C k X (.Assign [.Name x pos'] e pos) (aS i m):=λc=>(Jh hN hi hx (he c) hs hf).imp λD σ H h=>by
 obtain⟨φ,δ,h,rh,re,p⟩:=h;refine⟨φ,δ,h,rh,re,(post.fl p).imp ?_⟩;rintro v H1 ⟨φ1,x,h1,p1,t1,aa,ab,q1⟩;exact q1.nx aa ((re.mono p1 t1).set ab i)
theorem Mp{t:Mg}(he:SE C k X e m)(hg:SG C k X tg t)(hs:swapsWithSole [tg] e pos.line X.env=pure false:=by rfl)(hw:swappedStores [tg] e X.env=pure none:=by rfl)(h1:(RS [tg] X.env).map (·.2)=[assign tg X.env]:=by rfl):SSt C k X (.Assign [tg] e pos) (kF m t):=λc=>(Jg (he c) (hg c) hs hw h1).imp λD σ H h=>by
 obtain⟨φ,δ,h,rh,re,p⟩:=h;refine⟨φ,δ,h,rh,re,(post.fl p).imp ?_⟩;rintro v H1 ⟨φ1,x,h1,p1,t1,aa,ab,q1⟩;cases et:t x δ with
 |none=>rw[et]at q1;exact q1.elim
 |some δ'=>
  rw[et]at q1;exact⟨φ1,δ,h1,x,δ',aa,re.mono p1 t1,ab,et,λσ' qh=>q1.nx aa qh⟩
theorem Mq(he:SE C k X e m)(hs:S8 e none pos.line X.env=pure false:=by rfl):SSt C k X (.Expr e pos) (kG m):=λc=>(GA (he c) hs).imp λD σ H h=>by
 obtain⟨φ,δ,h,rh,re,p⟩:=h;refine⟨φ,δ,h,rh,re,(post.fl p).imp ?_⟩;rintro v H1 ⟨φ1,x,h1,p1,t1,aa,ab,q1⟩;exact q1.nx aa (re.mono p1 t1)
theorem Mr(he:SE C k X e m):SSt C k X (.Return (some e) pos) (aV m):=λc=>(Jd (he c)).imp λD σ H h=>by
 obtain⟨φ,δ,h,rh,re,p⟩:=h;refine⟨φ,δ,h,rh,re,(post.fl p).imp ?_⟩;rintro v H1 ⟨φ1,x,h1,p1,t1,aa,ab,q1⟩;exact q1.rt aa ab
variable{as:List Stmt}{vk:Expr}
theorem Ob{a:Ms}{b:Ms}{bs:List Stmt}{t:Ev->PH->Rs Bool}(hc:ST C k X vk t)(ha:SSs C k X as a)(hb:SSs C k X bs b):SSt C k X (.If vk as bs pos) (aX t a b):=λc=>(Le (hc c) (ha c) (hb c)).imp λD σ H h=>by
 obtain⟨φ,δ,h,rh,re,p⟩:=h;refine⟨φ,δ,h,rh,re,(bD.fl p).imp ?_⟩;rintro d H1 ⟨φ1,h1,p1,t1,aa,q1⟩;cases d with
 |true=>exact CU ⟨φ1,δ,h1,aa,re.mono p1 t1,q1⟩
 |false=>exact CT ⟨φ1,δ,h1,aa,re.mono p1 t1,q1⟩
structure Wk where
 xs:List PV
 g:PH->Bool
def Dm(C:MC)(J:It)(w:Wk)(φ0:List Addr)(H0:Hp):Prop:=∀φ H h,φ0<+:φ->Kp H0 H->RH C φ H h->w.g h=true->∀i:Nat,
 (i<w.xs.length->J.go i H/\∀x H',J.yld i H x H'->(∃p,w.xs[i]?=some p/\RV C φ H' p x)/\Kp H H'/\RH C φ H' h)/\(w.xs.length<=i->J.stop i H)
abbrev Mi:=Ev->PH->Rs Wk
def cR(C:MC)(φ:List Addr)(H:Hp)(r:Rs Wk)(R:It->Hp->Prop):Prop:=match r with
 |.ok w h=>∀φ' H' J,φ<+:φ'->Kp H H'->RH C φ' H' h->Dm C J w φ' H'->R J H'
 |.exc x h=>∀φ' H',φ<+:φ'->Kp H H'->RH C φ' H' h->C.ex φ' H' x
 |.bad=>False
def rdI(C:MC)(m:Mi):TI:=λσ H R=>∃φ δ h,RH C φ H h/\RE C φ H δ σ/\cR C φ H (m δ h) R
def SI(C:MC)(k:Nat)(X:Cx)(tg iter:Expr)(m:Mi):Prop:=Cxt C k X->PI X tg iter (rdI C m)
def Bi(n:Nat)(xs:List PV)(h':PH):Bool:=match aO h' n with
 |some ys=>PV.beqs ys xs
 |none=>false
def ofSeq(x:PV)(h:PH):Rs Wk:=match x with
 |.tup xs=>.ok ⟨xs,λ_=>true⟩ h
 |.ref n=>match aO h n with
  |some xs=>.ok ⟨xs,Bi n xs⟩ h
  |none=>.bad
 |.fl xs=>.ok ⟨xs,λ_=>true⟩ h
 |_=>.bad
def aU(m:Me):Mi:=λδ h=>(m δ h).bind ofSeq
theorem Mt(h:SE C k X iter m):SI C k X tg iter (aU m):=λc=>by
 intro pins s σ H R I q;obtain⟨φ,δ,hh,rh,re,p⟩:=q;have key:rd C m σ H λv H1=>∃φ1 x h1,φ<+:φ1/\Kp H H1/\RH C φ1 H1 h1/\RV C φ1 H1 x v/\cR C φ1 H1 (ofSeq x h1) R:=by
  refine⟨φ,δ,hh,rh,re,?_⟩;unfold aU at p;cases e:m δ hh with
  |ok x h1=>
   rw[e]at p;intro φ' v H' p' t' bt ax;refine⟨φ',x,h1,p',t',bt,ax,?_⟩
   show cR C φ' H' (ofSeq x h1) R
   have p0:cR C φ H (ofSeq x h1) R:=p;cases e2:ofSeq x h1 with
   |ok w h2=>rw[e2]at p0;exact λφ2 H2 J p2 t2=>p0 φ2 H2 J (p'.trans p2) (t'.trans t2)
   |exc z h2=>rw[e2]at p0;exact λφ2 H2 p2 t2=>p0 φ2 H2 (p'.trans p2) (t'.trans t2)
   |bad=>rw[e2]at p0;exact p0
  |exc x h1=>rw[e]at p;exact p
  |bad=>rw[e]at p;exact p
 refine thn (h c pins s σ H _ I key) λv s1 hz=>?_;obtain⟨x,H1,I1,r1,φ1,x',h1,p1,t1,aa,ab,q1⟩:=hz;unfold ofSeq at q1;cases x' with
 |tup xs=>
  obtain⟨a,vs,rfl,sa,ra⟩:=ab;cases r1
  rw[<-c.K]at sa;obtain⟨its,rv,p,hz⟩:=I1.tuple sa;refine wpAny_pyIter_tuple (show s1.heap.IsTuple a its.toArray from p) ?_
  refine⟨s1.heap.objs.size,[s1.heap.objs.size],_,_,H1,rfl,I1.kept (t':=s1.toks) λb o e=>PB _ e,AR a _,⟨_,PR _ rfl,rfl,rfl⟩,λb hb=>?_,?_⟩
  ·have e:b=s1.heap.objs.size:=by simpa using hb
   subst e;exact I1.fpOk (PD _) (I1.hok.fresh (PD _))
  ·refine q1 φ1 H1 (Itt X.K a) PF (Kp.refl H1) aa λφ2 H2 h2 p2 t2 ah _ i=>⟨λhi=>?_,λhi=>⟨vs,t2.sq sa,by rw[<-ra.length];exact hi⟩⟩;have ay:i<vs.length:=by rw[<-ra.length];exact hi
   refine⟨⟨vs,vs[i],t2.sq sa,by simp[ay]⟩,λx H' y=>?_⟩;obtain⟨e,y⟩:=y;subst e;obtain⟨x2,e2,r2⟩:=ra.get (y vs (t2.sq sa));exact⟨⟨x2,e2,r2.mono p2 t2⟩,Kp.refl _,ah⟩
 |ref n=>
  obtain⟨a,rfl,ha⟩:=ab;cases r1
  dsimp only at q1;cases e:aO h1 n with
  |none=>rw[e]at q1;exact q1.elim
  |some xs=>
   rw[e]at q1;obtain⟨a2,vs,au,sa,ra⟩:=cA aa e;rw[ha]at au;cases au;have nq:SqL X.K H1 a vs:=by rw[c.K];exact sa
   obtain⟨its,rv,p,hz⟩:=I1.list nq;refine wpAny_pyIter_list p.isList ?_;refine⟨s1.heap.objs.size,[s1.heap.objs.size],_,_,H1,rfl,I1.kept (t':=s1.toks) λb o e=>PB _ e,vM a _,⟨_,PR _ rfl,rfl,rfl⟩,λb hb=>?_,?_⟩
   ·have e:b=s1.heap.objs.size:=by simpa using hb
    subst e;exact I1.fpOk (PD _) (I1.hok.fresh (PD _))
   ·refine q1 φ1 H1 (Itl X.K a) PF (Kp.refl H1) aa λφ2 H2 h2 p2 t2 ah hg i=>?_;have hg:(match aO h2 n with|some ys=>PV.beqs ys xs|none=>false)=true:=hg
    cases e2:aO h2 n with
    |none=>rw[e2]at hg;cases hg
    |some ys=>
     rw[e2]at hg;have z6:=PV.beqs_eq hg;subst z6;obtain⟨a3,us,xn,su,ru⟩:=cA ah e2;rw[fP p2 ha]at xn;cases xn;rw[<-c.K]at su;refine⟨λhi=>?_,λhi=>⟨us,su,by rw[<-ru.length];exact hi⟩⟩;have ay:i<us.length:=by rw[<-ru.length];exact hi
     refine⟨⟨us,us[i],su,by simp[ay]⟩,λx H' y=>?_⟩;obtain⟨e,y⟩:=y;subst e;obtain⟨x2,e2,r2⟩:=ru.get (y us su);exact⟨⟨x2,e2,r2⟩,Kp.refl _,ah⟩
 |fl xs=>
  obtain⟨a,vs,rfl,sa,ra⟩:=ab;cases r1
  rw[<-c.K]at sa;obtain⟨its,rv,p,hz⟩:=I1.list sa.sq;refine wpAny_pyIter_list p.isList ?_;refine⟨s1.heap.objs.size,[s1.heap.objs.size],_,_,H1,rfl,I1.kept (t':=s1.toks) λb o e=>PB _ e,vM a _,⟨_,PR _ rfl,rfl,rfl⟩,λb hb=>?_,?_⟩
  ·have e:b=s1.heap.objs.size:=by simpa using hb
   subst e;exact I1.fpOk (PD _) (I1.hok.fresh (PD _))
  ·refine q1 φ1 H1 (Itl X.K a) PF (Kp.refl H1) aa λφ2 H2 h2 p2 t2 ah _ i=>⟨λhi=>?_,λhi=>⟨vs,(t2.sf sa).sq,by rw[<-ra.length];exact hi⟩⟩;have ay:i<vs.length:=by rw[<-ra.length];exact hi
   refine⟨⟨vs,vs[i],(t2.sf sa).sq,by simp[ay]⟩,λx H' y=>?_⟩;obtain⟨e,y⟩:=y;subst e;obtain⟨x2,e2,r2⟩:=ra.get (y vs (t2.sf sa).sq);exact⟨⟨x2,e2,r2.mono p2 t2⟩,Kp.refl _,ah⟩
 |_=>exact q1.elim
def upTo(lo:Int):Nat->List PV
 |0=>[]
 |n+1=>.int lo::upTo (lo+1) n
theorem bT:∀(n:Nat)(lo:Int),(upTo lo n).length=n
 |0,_=>rfl
 |n+1,lo=>by simp[upTo,bT n]
theorem oO:∀(n:Nat)(lo:Int)(i:Nat),i<n->(upTo lo n)[i]?=some (.int (lo+i))
 |0,_,_,h=>by omega
 |n+1,lo,0,_=>by simp[upTo]
 |n+1,lo,i+1,h=>by
  simp only[upTo,Rh];rw[oO n (lo+1) i (by omega)]
  congr 2
  omega
open Classical in
noncomputable def C3:List PV->PH->Rs Wk:=λxs h=>match xs with
 |[.int j]=>if -(2 ^ 62)<=j/\j<2 ^ 62 then .ok ⟨upTo 0 j.toNat,λ_=>true⟩ h else .bad
 |_=>.bad
noncomputable def iG(ms:Ma):Mi:=λδ h=>(ms δ h).bind C3
theorem Kb(lo:Int)(n:Nat)(φ:List Addr)(H:Hp):Dm C (Itr lo n) ⟨upTo lo n,λ_=>true⟩ φ H:=λφ2 H2 h2 p2 t2 ah _ i=>by
 refine⟨λhi=>?_,λhi=>?_⟩
 ·have ay:i<n:=by rw[<-bT n lo];exact hi
  refine⟨ay,λx H' y=>?_⟩;obtain⟨e,y⟩:=y;subst e y;exact⟨⟨.int (lo+i),oO n lo i ay,rfl⟩,Kp.refl _,ah⟩
 ·have:(upTo lo n).length<=i:=hi;rw[bT]at this;exact this
theorem postA.bindI{r:Rs (List PV)}{f:List PV->PH->Rs Wk}{R:It->Hp->Prop}(h:cR C φ H (r.bind f) R):postA C φ H r λvs H1=>∃φ1 ps h1,φ<+:φ1/\Kp H H1/\RH C φ1 H1 h1/\RVs C φ1 H1 ps vs/\cR C φ1 H1 (f ps h1) R:=by
 cases r with
 |ok a h'=>
  intro φ' v H' p' t' rh rv;refine⟨φ',a,h',p',t',rh,rv,?_⟩;have p0:cR C φ H (f a h') R:=h;cases e2:f a h' with
  |ok w h2=>rw[e2]at p0;exact λφ2 H2 J p2 t2=>p0 φ2 H2 J (p'.trans p2) (t'.trans t2)
  |exc z h2=>rw[e2]at p0;exact λφ2 H2 p2 t2=>p0 φ2 H2 (p'.trans p2) (t'.trans t2)
  |bad=>rw[e2]at p0;exact p0
 |exc a h'=>exact h
 |bad=>exact h
theorem PI.imp{t t':TI}(h:PI X tg iter t)(i:∀σ H R,t' σ H R->t σ H R):PI X tg iter t':=λpins s σ H R I q=>h pins s σ H R I (i σ H R q)
set_option tactic.hygienic true in
theorem Kc{x:Expr}{p:Pos}(ha:SA C k X [x] ms)(hb:("range" : Str)∈C.bs:=by decide)(hg:Gl X "range" := by rfl)(hs:P3 [x] X.env=[(false,eval x X.env)]:=by rfl):SI C k X tg (.Call (.Name "range" p) [x] [] pos) (iG ms):=λc=>
 (pr1 hg (c.bn _ hb) (ha c) hs).imp λσ H R h=>by
  obtain⟨φ,δ,h,rh,re,p⟩:=h;refine⟨φ,δ,h,rh,re,(postA.bindI p).imp ?_⟩;rintro vs H1 ⟨φ1,xs,h1,p1,t1,aa,ab,q1⟩;unfold C3 at q1;split at q1
  ·obtain⟨v,rfl,rx⟩:=ab.one;cases rx
   rename_i j
   by_cases hj:-(2 ^ 62)<=j/\j<2 ^ 62
   ·rw[if_pos hj]at q1;exact⟨hj,q1 φ1 H1 _ PF (Kp.refl _) aa (Kb 0 j.toNat φ1 H1)⟩
   ·rw[if_neg hj]at q1;exact q1.elim
  ·exact q1.elim
def eI(g:PH->Bool)(tg:Mg)(body:Ms):List PV->Ev->PH->Fl
 |[],δ,h=>if g h=true then .nx δ h else .bad
 |x::xs,δ,h=>if g h=true then(match tg x δ with
  |none=>.bad
  |some δ1=>match body δ1 h with
   |.nx δ2 h2=>eI g tg body xs δ2 h2
   |.ct δ2 h2=>eI g tg body xs δ2 h2
   |.bk δ2 h2=>.nx δ2 h2
   |r=>r) else .bad
def cT(mi:Mi)(tg:Mg)(body:Ms):Ms:=λδ h=>(mi δ h).fl λw h1=>eI w.g tg body w.xs δ h1
theorem cR.fl{r:Rs Wk}{f:Wk->PH->Fl}{D:Ends}(h:bN C φ H (r.fl f) D):cR C φ H r λJ H1=>∃φ1 w h1,φ<+:φ1/\Kp H H1/\RH C φ1 H1 h1/\Dm C J w φ1 H1/\bN C φ1 H1 (f w h1) D:=by
 cases r with
 |ok a h'=>exact λφ' H' J p t rh wk=>⟨φ',a,h',p,t,rh,wk,bN.weak p t h⟩
 |exc a h'=>exact h
 |bad=>exact h
theorem cR.imp{r:Rs Wk}{Q Q':It->Hp->Prop}(h:cR C φ H r Q)(i:∀v H',Q v H'->Q' v H'):cR C φ H r Q':=by
 cases r with
 |ok a h'=>exact λφ' H' J p t rh wk=>i J H' (h φ' H' J p t rh wk)
 |exc a h'=>exact h
 |bad=>exact h
theorem drop_cons{α:Type}{xs:List α}{p:α}(h:xs[i]?=some p):xs.drop i=p::xs.drop (i+1):=by
 obtain⟨h1,h2⟩:=Pv.mp h;rw[Q7 h1,h2]
variable{H0:Hp}{J:It}{body:Ms}{φ0:List Addr}
theorem Hu{w:Wk}{tg:Mg}{D:Ends}(wk:Dm C J w φ0 H0)(rh:RH C φ0 H0 h)(re:RE C φ0 H0 δ σ)(p:bN C φ0 H0 (eI w.g tg body w.xs δ h) D):
  ∃W:Nat->Nat->St->Hp->Prop,(∃m,W 0 m σ H0)/\∀i m σ H,W i m σ H->
   (J.stop i H/\D.nx σ H)\/(J.go i H/\∃N:St->Hp->Prop,(∀σ' H',N σ' H'->∃m',m'<m/\W (i+1) m' σ' H')/\∀x H',J.yld i H x H'->rdG C tg x σ H' λσ2 H2=>rdS C body { D with nx:=N,ct:=N,bk:=D.nx } σ2 H2):=by
 refine⟨λi m σ H=>m=w.xs.length-i/\i<=w.xs.length/\∃φ δ h,φ0<+:φ/\Kp H0 H/\RH C φ H h/\RE C φ H δ σ/\bN C φ H (eI w.g tg body (w.xs.drop i) δ h) D,
  ⟨w.xs.length,by simp,Qd _,φ0,δ,h,PF,Kp.refl _,rh,re,by rw[List.drop_zero];exact p⟩,?_⟩
 rintro i m σ H ⟨rfl,hi,φ,δ,h,pp,tt,rh,re,p⟩
 by_cases ao:i<w.xs.length
 ·have hd:w.xs.drop i=w.xs[i]::w.xs.drop (i+1):=drop_cons (by simp[ao]);rw[hd]at p;unfold eI at p
  by_cases hg:w.g h=true
  ·rw[if_pos hg]at p;obtain⟨go,step⟩:=(wk φ H h pp tt rh hg i).1 ao;refine .inr ⟨go,λσ' H'=>∃φ δ h,φ0<+:φ/\Kp H0 H'/\RH C φ H' h/\RE C φ H' δ σ'/\bN C φ H' (eI w.g tg body (w.xs.drop (i+1)) δ h) D,λσ' H' ⟨φ',δ',h',q⟩=>⟨w.xs.length-(i+1),by omega,rfl,ao,φ',δ',h',q⟩,λx H' y=>?_⟩;obtain⟨⟨q,eq,rv⟩,t1,aa⟩:=step x H' y;have uf:w.xs[i]=q:=by
    have:w.xs[i]?=some w.xs[i]:=by simp[ao]
    rw[this]at eq;exact P4 eq
   rw[uf]at p;cases et:tg q δ with
   |none=>rw[et]at p;exact p.elim
   |some δ1=>
    rw[et]at p;dsimp only at p;refine⟨φ,δ,h,q,δ1,aa,re.mono PF t1,rv,et,λσ2 pq=>⟨φ,δ1,h,aa,pq,?_⟩⟩;have p:=bN.weak PF t1 p;cases eb:body δ1 h with
    |nx δ2 h2=>rw[eb]at p;exact λφ3 σ3 H3 p3 t3 c8 qu=>⟨φ3,δ2,h2,pp.trans p3,(tt.trans t1).trans t3,c8,qu,bN.weak p3 t3 p⟩
    |ct δ2 h2=>rw[eb]at p;exact λφ3 σ3 H3 p3 t3 c8 qu=>⟨φ3,δ2,h2,pp.trans p3,(tt.trans t1).trans t3,c8,qu,bN.weak p3 t3 p⟩
    |bk δ2 h2=>rw[eb]at p;exact p
    |rt z h2=>rw[eb]at p;exact p
    |exc z h2=>rw[eb]at p;exact p
    |bad=>rw[eb]at p;exact p
  ·rw[if_neg hg]at p;exact p.elim
 ·have e:i=w.xs.length:=by omega
  subst e;rw[List.drop_length]at p;unfold eI at p
  by_cases hg:w.g h=true
  ·rw[if_pos hg]at p;exact .inl ⟨(wk φ H h pp tt rh hg _).2 (PD _),p.nx rh re⟩
  ·rw[if_neg hg]at p;exact p.elim
variable{mi:Mi}
theorem Mu{body:List Stmt}{t:Mg}{mb:Ms}(hi:SI C k X tg iter mi)(hg:SG C k X tg t)(hb:SSs C k X body mb)(hp:PassesOwn (model X.prog X.w) X.A X.env X.xe:=by exact PassesOwn.never)(hs:∀x,Rb iter X.env x=pure x:=by intro _;rfl):SSt C k X (.For tg iter body [] pos) (cT mi t mb):=λc=>(Ji hp c.calm (hi c) (hg c) (hb c) hs).imp λD σ H h=>by
 obtain⟨φ,δ,h,rh,re,p⟩:=h;refine⟨φ,δ,h,rh,re,(cR.fl p).imp ?_⟩;rintro J H1 ⟨φ1,w,h1,p1,t1,aa,wk,q1⟩;exact Hu wk aa (re.mono p1 t1) q1
open PySem PySem.Spec PyProof.Rows
variable{C:MC}{k:Nat}{X:Cx}
def fQ(js:List (Option Nat))(δ:Ev):Ev:=js.map λo=>match o with
 |none=>none
 |some j=>yH δ j
theorem C4:∀{σ:St}{i:Nat}{v:V},σ[i]?=some (some v)->B5 σ i=some v
 |[],_,_,h=>by simp at h
 |x::_,0,v,h=>by
  have:x=some v:=by simpa using h
  exact this
 |_::r,n+1,v,h=>C4 (σ:=r) (i:=n) (by simpa using h)
theorem RE.cap(re:RE C φ H δ σ)(js:List (Option Nat)):RE C φ H (fQ js δ) (iQ js σ):=by
 refine⟨by simp[fQ,iQ],λi p e=>?_⟩;unfold fQ at e;unfold iQ;rw[PQ]at e⊢;cases q:js[i]? with
 |none=>rw[q]at e;cases e
 |some o=>
  rw[q]at e;cases o with
  |none=>cases e
  |some j=>
   obtain⟨v,hv,rv⟩:=re.2 j p (tJ (P4 e));exact⟨v,by show some (B5 σ j)=_;rw[C4 hv],rv⟩
def jS(g:PH->Bool)(tg:Mg)(tst:Ev->PH->Rs Bool)(elt:Me)(δ0:Ev)(n:Nat):List PV->PH->Rs PV
 |[],h=>if g h=true then .ok (.ref n) h else .bad
 |x::xs,h=>if g h=true then(match tg x δ0 with
  |none=>.bad
  |some δ1=>(tst δ1 h).bind λb h1=>match b with
   |false=>jS g tg tst elt δ0 n xs h1
   |true=>(elt δ1 h1).bind λp h2=>match cQ h2 n with
    |some ys=>if ys.length<PP then jS g tg tst elt δ0 n xs (h2.set n (.lst (ys++[p]))) else .bad
    |none=>.bad) else .bad
def bV(js:List (Option Nat))(mi:Mi)(tg:Mg)(tst:Ev->PH->Rs Bool)(elt:Me):Me:=λδ h=>(mi δ h).bind λw h1=>jS w.g tg tst elt (fQ js δ) h1.length w.xs (h1++[.lst []])
def mI:Ev->PH->Rs Bool:=λ_ h=>.ok true h
def STs(C:MC)(k:Nat)(X:Cx)(es:List Expr)(m:Ev->PH->Rs Bool):Prop:=Cxt C k X->PTs X es (rdB C m)
theorem Kd:STs C k X [] mI:=λc pins s σ H Q I h=>by
 obtain⟨φ,δ,h,rh,re,p⟩:=h;exact GU pins s σ H Q I (p.val rh)
theorem Ke{m:Ev->PH->Rs Bool}(h:ST C k X e m):STs C k X [e] m:=λc=>GV (h c)
theorem cR.bind{r:Rs Wk}{f:Wk->PH->Rs PV}{Q:VK}(h:post C φ H (r.bind f) Q):cR C φ H r λJ H1=>∃φ1 w h1,φ<+:φ1/\Kp H H1/\RH C φ1 H1 h1/\Dm C J w φ1 H1/\post C φ1 H1 (f w h1) Q:=by
 cases r with
 |ok a h'=>exact λφ' H' J p t rh wk=>⟨φ',a,h',p,t,rh,wk,post.weak p t h⟩
 |exc a h'=>exact h
 |bad=>exact h
variable{elt:Me}{tst:Ev->PH->Rs Bool}
theorem EM{w:Wk}{tg:Mg}{Q:VK}(wk:Dm C J w φ0 H0)(rh:RH C φ0 H0 h)(re:RE C φ0 H0 δ σ)(p:post C φ0 H0 (jS w.g tg tst elt (fQ js δ) h.length w.xs (h++[.lst []])) Q)(acc:Addr)(az:H0 acc=none):
  ∃W:Nat->Nat->Hp->Prop,(∃m,W 0 m (upd H0 acc (.lst [])))/\∀i m H2,W i m H2->
   (J.stop i H2/\Q (.ref acc) H2)\/(J.go i H2/\∃N:Hp->Prop,(∀H',N H'->∃m',m'<m/\W (i+1) m' H')/\∀x H3,J.yld i H2 x H3->IR js (rdG C tg) (rdB C tst) (rd C elt) σ acc x H3 N):=by
 have hlen:(φ0++[acc])[h.length]?=some acc:=by rw[<-rh.len];simp
 refine⟨λi m H=>m=w.xs.length-i/\i<=w.xs.length/\∃φ h',(φ0++[acc])<+:φ/\Kp H0 H/\RH C φ H h'/\post C φ H (jS w.g tg tst elt (fQ js δ) h.length (w.xs.drop i) h') Q,
  ⟨w.xs.length,by simp,Qd _,φ0++[acc],h++[.lst []],PF,Kp.new az,rh.new (o:=.lst []) az ⟨[],aJ,trivial⟩,by rw[List.drop_zero];exact post.weak (QB _ _) (Kp.new az) p⟩,?_⟩
 rintro i m H ⟨rfl,hi,φ,h',pp,tt,bt,p⟩;have uo:φ0<+:φ:=(QB _ _).trans pp
 by_cases ao:i<w.xs.length
 ·have hd:w.xs.drop i=w.xs[i]::w.xs.drop (i+1):=drop_cons (by simp[ao]);rw[hd]at p;unfold jS at p
  by_cases hg:w.g h'=true
  ·rw[if_pos hg]at p;obtain⟨go,step⟩:=(wk φ H h' uo tt bt hg i).1 ao;refine .inr ⟨go,λH'=>∃φ h',(φ0++[acc])<+:φ/\Kp H0 H'/\RH C φ H' h'/\post C φ H' (jS w.g tg tst elt (fQ js δ) h.length (w.xs.drop (i+1)) h') Q,λH' ⟨φ',h',q⟩=>⟨w.xs.length-(i+1),by omega,rfl,ao,φ',h',q⟩,λx H' y=>?_⟩;obtain⟨⟨q,eq,rv⟩,t1,aa⟩:=step x H' y;have uf:w.xs[i]=q:=by
    have:w.xs[i]?=some w.xs[i]:=by simp[ao]
    rw[this]at eq;exact P4 eq
   rw[uf]at p;cases et:tg q (fQ js δ) with
   |none=>rw[et]at p;exact p.elim
   |some δ1=>
    rw[et]at p;have Pj:RE C φ H' (fQ js δ) (iQ js σ):=(re.mono uo (tt.trans t1)).cap js;refine⟨φ,fQ js δ,h',q,δ1,aa,Pj,rv,et,λσ2 pq=>⟨φ,δ1,h',aa,pq,(bD.bind (post.weak PF t1 p)).imp ?_⟩⟩;rintro b H5 ⟨φ5,h5,p5,t5,rh5,q5⟩;cases b with
    |false=>exact CT ⟨φ5,h5,pp.trans p5,(tt.trans t1).trans t5,rh5,q5⟩
    |true=>
     refine CU ⟨φ5,δ1,h5,rh5,pq.mono p5 t5,(post.bind q5).imp ?_⟩;rintro v H6 ⟨φ6,z,h6,p6,t6,rh6,rv6,q6⟩;cases e6:cQ h6 h.length with
     |none=>rw[e6]at q6;exact q6.elim
     |some ys=>
      rw[e6]at q6;obtain⟨hz,q6⟩:=q6.ite;have hφ:φ6[h.length]?=some acc:=fP ((pp.trans p5).trans p6) hlen;obtain⟨vs,hH,jy⟩:=rh6.at' h.length acc _ hφ (fV e6);refine⟨vs,hH,by rw[<-jy.length];exact hz,φ6,h6.set h.length (.lst (ys++[z])),(pp.trans p5).trans p6,(((tt.trans t1).trans t5).trans t6).trans (Kp.lst hH),
       rh6.write hφ (by rw[hH];trivial) ⟨vs++[v],aJ,(jy.snoc rv6).mono PF (Kp.lst hH)⟩,post.weak PF (Kp.lst hH) q6⟩
  ·rw[if_neg hg]at p;exact p.elim
 ·have e:i=w.xs.length:=by omega
  subst e;rw[List.drop_length]at p;unfold jS at p
  by_cases hg:w.g h'=true
  ·rw[if_pos hg]at p;exact .inl ⟨(wk φ H h' uo tt bt hg _).2 (PD _),p.val bt ⟨acc,rfl,fP pp hlen⟩⟩
  ·rw[if_neg hg]at p;exact p.elim
theorem C5{tg:Mg}{Q:VK}(h:rd C (bV js mi tg tst elt) σ H Q):BZ js (rdI C mi) (rdG C tg) (rdB C tst) (rd C elt) σ H Q:=by
 obtain⟨φ,δ,h,rh,re,p⟩:=h;refine⟨φ,δ,h,rh,re,(cR.bind p).imp ?_⟩;rintro J H1 ⟨φ1,w,h1,p1,t1,aa,wk,q1⟩;intro acc az;exact EM wk aa (re.mono p1 t1) q1 acc az
theorem Kf{elt:Expr}{g:Mg}{tt:Ev->PH->Rs Bool}(d8:X.env.scope=os)(jf:X.N=oN)(ok:iO os oN sc N js=true)(hi:SI C k X tg iter mi)(hg:∀C' fp s₀ H₀,SG C k (X.comp sc N C' fp s₀ H₀) tg g)(ht:∀C' fp s₀ H₀,STs C k (X.comp sc N C' fp s₀ H₀) ifs tt)(he:∀C' fp s₀ H₀,SE C k (X.comp sc N C' fp s₀ H₀) elt me)(hs:∀x,Rb iter X.env x=pure x:=by intro _;rfl):SE C k X (.ListComp elt [⟨tg,iter,ifs,0⟩] sc pos) (bV js mi g tt me):=λc=>
 (GW c.calm d8 jf ok (hi c) (λa b s H=>hg a b s H (c.comp sc N a b s H)) (λa b s H=>ht a b s H (c.comp sc N a b s H)) (λa b s H=>he a b s H (c.comp sc N a b s H)) hs).imp λσ H Q h=>C5 h
theorem Dn{elt:Expr}{g:Mg}{tt:Ev->PH->Rs Bool}(hN:X.N.Nodup)(f7:X.N[i]?=some x)(ji:X.env.scope.names.lookup x=some .local)(d8:X.env.scope=os)(jf:X.N=oN)(ok:iO os oN sc N js=true)(hi:SI C k X tg iter mi)(hg:∀C' fp s₀ H₀,SG C k (X.comp sc N C' fp s₀ H₀) tg g)(ht:∀C' fp s₀ H₀,STs C k (X.comp sc N C' fp s₀ H₀) ifs tt)(he:∀C' fp s₀ H₀,SE C k (X.comp sc N C' fp s₀ H₀) elt me)(oa:S8 (.ListComp elt [⟨tg,iter,ifs,0⟩] sc pos) (some (.Name x pos')) da.line X.env=pure true:=by rfl)(hs:∀x,Rb iter X.env x=pure x:=by intro _;rfl):SSt C k X (.Assign [.Name x pos'] (.ListComp elt [⟨tg,iter,ifs,0⟩] sc pos) da) (aS i (bV js mi g tt me)):=λc=>
 (B6 hN f7 ji c.calm d8 jf ok (hi c) (λa b s H=>hg a b s H (c.comp sc N a b s H)) (λa b s H=>ht a b s H (c.comp sc N a b s H)) (λa b s H=>he a b s H (c.comp sc N a b s H)) oa hs).imp λD σ H h=>by
  obtain⟨φ,δ,h,rh,re,p⟩:=h;refine C5 ⟨φ,δ,h,rh,re,(post.fl p).imp ?_⟩;rintro v H1 ⟨φ1,x,h1,p1,t1,aa,ab,q1⟩;exact q1.nx aa ((re.mono p1 t1).set ab i)
def mFn(N:Nat)(body:Ms):Fn:=λargs h=>match body (args.map some++Sm (N-args.length) none) h with
 |.nx _ h'=>.ok .non h'
 |.rt p h'=>.ok p h'
 |.exc x h'=>.exc x h'
 |_=>.bad
theorem RE.start{ps:List PV}(r:RVs C φ H ps vs)(N:List Str):RE C φ H (ps.map some++Sm (N.length-ps.length) none) (start N vs):=by
 unfold L2.start;refine⟨by simp[r.length],λi p e=>?_⟩
 by_cases hi:i<ps.length
 ·rw[QC (by simpa using hi),PQ]at e
  rw[QC (by simpa[<-r.length] using hi),PQ]
  cases q:ps[i]? with
  |none=>rw[q]at e;cases e
  |some x=>
   rw[q]at e;cases e
   obtain⟨v,hv,rv⟩:=r.at q;exact⟨v,by rw[hv];rfl,rv⟩
 ·rw[Q1 (by simpa using hi)]at e
  rw[List.getElem?_replicate]at e;split at e
  ·cases e
  ·cases e
theorem IV{base:Heap}{f:Addr}(hex:∀φ H x,¬ C.ex φ H x)(hbn:∀x∈C.bs,mg x=none)(F:Fun C.K x qual st f fd)(S:nP N ps (aP st))(hb:∀(cdv:Value)(A:Around)(outer:List Env)(s:Shared)(H:Hp)(E:XK),SSs C k (vB CX0 P C.w C.K mg base N qual (aP st) f cdv A outer s H E).nox (bW st) body):
  cE P C.w C.K mg base CX0 (k+1) f fd ps (spM C ps.length (mFn N.length body)):=by
 refine F.ok S (λvs H Q E h=>?_) (λcdv A outer s H vs Q E hr h=>?_)
 ·obtain⟨φ,h,xs,rh,rv,hl,_⟩:=h;rw[<-rv.length];exact hl
 ·obtain⟨φ,h,xs,rh,rv,hl,p⟩:=h;refine⟨_,hb cdv A outer s H E ⟨rfl,rfl,hr,hbn,rfl⟩,φ,xs.map some++Sm (N.length-xs.length) none,h,rh,RE.start rv N,?_⟩;unfold mFn at p;cases e:body (xs.map some++Sm (N.length-xs.length) none) h with
  |nx δ h'=>rw[e]at p;exact λφ' σ' H' pp tt bt qh=>p φ' .non H' pp tt bt rfl
  |rt z h'=>rw[e]at p;exact p
  |exc z h'=>rw[e]at p;exact λφ' H' pp tt bt=>(hex _ _ _ (p φ' H' pp tt bt)).elim
  |bk δ h'=>rw[e]at p;exact p.elim
  |ct δ h'=>rw[e]at p;exact p.elim
  |bad=>rw[e]at p;exact p.elim
theorem Kg{f:Fn}{Q:VK}{E:XK}(hO:Ei H)(ho:SqL C.K H a (ns.map V.int))(hf:∃h,f [.fl (ns.map PV.int)] []=.ok (.bl true) h)(hQ:∀H',Q (.bl true) H'):spM C 1 f [.ref a] H Q E:=by
 have r0:∀ns:List Int,RVs C [] H (ns.map PV.int) (ns.map V.int):=by
  intro ns
  induction ns with
  |nil=>trivial
  |cons n ns ih=>exact⟨rfl,ih⟩
 have hs:SqF C.K H a (ns.map V.int):=by
  rcases ho with(h|⟨o,h⟩)|h
  ·rcases hO a with z|⟨o,xs,z⟩
   ·rw[z]at h;cases h
   ·rw[z]at h;cases h
  ·exact .inl ⟨o,h⟩
  ·exact .inr h
 refine⟨[],[],[.fl (ns.map PV.int)],⟨rfl,by simp,λn b ob h1 h2=>by simp at h1⟩,⟨⟨a,_,rfl,hs,r0 ns⟩,trivial⟩,rfl,?_⟩;obtain⟨h,e⟩:=hf;rw[e];intro φ' v H' _ _ _ rv;cases rv
 exact hQ H'
open PySem PySem.Spec PyProof.Rows
variable{C:MC}{k:Nat}{X:Cx}
def tyN(x:PV)(h:PH):Option String:=match x with
 |.non=>some "NoneType"
 |.bl _=>some "bool"
 |.int _=>some "int"
 |.str _=>some "str"
 |.tup _=>some "tuple"
 |.fl _=>some "list"
 |.ref n=>match h[n]? with
  |some (.lst _)=>some "list"
  |some (.dK _)=>some "dict"
  |_=>none
 |.ty _=>none
def oP(t c:String):Bool:=t == c || (t == "bool" && c == "int")
def known:List String:=["int","str","bool","list","tuple","dict"]
theorem Kh{t c:String}(ht:t∈"NoneType" :: known)(hc:c∈known):PySem.W.kitOne K (.type t) (.type c)=some (oP t c):=by
 simp only[known,P5,List.not_mem_nil,or_false]at ht hc;rcases ht with rfl|rfl|rfl|rfl|rfl|rfl|rfl <;> rcases hc with rfl|rfl|rfl|rfl|rfl|rfl <;> rfl
def vH:List PV->PH->Rs PV:=λxs h=>match xs with
 |[x,.ty c]=>match tyN x h with
  |some t=>if c∈known then .ok (.bl (oP t c)) h else .bad
  |none=>.bad
 |_=>.bad
theorem EN(hK:X.K=C.K):bS X (.builtin "isinstance") (λxs H Q=>∃x c t b,xs=[x,.ty c]/\(pN C.K H x (.type t)\/(∃a vs,x=.ref a/\SqT C.K H a vs/\t="tuple")\/(∃a vs,x=.ref a/\SqL C.K H a vs/\t="list"))/\PySem.W.kitOne C.K (.type t) (.type c)=some b/\Q (.bl b) H):=by
 intro pins s σ H xs us Q I r h;obtain⟨x,c,t,b,rfl,ty,e,q⟩:=h;obtain⟨u,v,rfl,ru,rv⟩:=vals2 r;cases rv
 rw[<-hK]at e ty;rcases ty with ty|⟨a,vs,rfl,sa,rfl⟩|⟨a,vs,rfl,sa,rfl⟩
 ·exact CM I ru ty e λtk=>⟨.bl b,H,I.tok tk,rfl,q⟩
 ·cases ru
  obtain⟨its,_,⟨o,h1,h2,_⟩,_⟩:=I.tuple sa;exact QI PySem.W.kitx_tuple I.kIn ⟨o,h1,h2⟩ e (λz=>nomatch z) λtk=>⟨.bl b,H,I.tok tk,rfl,q⟩
 ·cases ru
  obtain⟨its,_,⟨o,n,h1,h2,_⟩,_⟩:=I.list sa;exact QI PySem.W.kitx_list I.kIn ⟨o,h1,h2⟩ e (λz=>nomatch z) λtk=>⟨.bl b,H,I.tok tk,rfl,q⟩
set_option tactic.hygienic true in
theorem yM:oI C k X (.builtin "isinstance") vH:=λc=>(EN c.K).imp λvs H Q h=>by
 obtain⟨φ,h,ps,rh,rv,po⟩:=h;unfold vH at po;split at po
 ·rename_i x n;obtain⟨v,w,rfl,rx,ry⟩:=rv.two;cases ry
  split at po
  ·rename_i t ht;obtain⟨hn,po⟩:=po.ite;have fin:∀{t:String},t∈"NoneType" :: known->post C φ H (.ok (.bl (oP t n)) h) Q->PySem.W.kitOne C.K (.type t) (.type n)=some (oP t n)/\Q (.bl (oP t n)) H:=λhm po=>⟨Kh hm hn,po.val rh rfl⟩;unfold tyN at ht;cases x with
   |non=>cases ht;cases rx;exact⟨_,n,_,_,rfl,.inl .non,fin (by decide) po⟩
   |bl b=>cases ht;cases rx;exact⟨_,n,_,_,rfl,.inl (.bl _),fin (by decide) po⟩
   |int b=>cases ht;cases rx;exact⟨_,n,_,_,rfl,.inl (.int _),fin (by decide) po⟩
   |str b=>cases ht;cases rx;exact⟨_,n,_,_,rfl,.inl (.str _),fin (by decide) po⟩
   |tup xs=>
    cases ht
    obtain⟨a,vs,rfl,sa,ra⟩:=rx;exact⟨_,n,_,_,rfl,.inr (.inl ⟨a,vs,rfl,sa,rfl⟩),fin (by decide) po⟩
   |fl xs=>
    cases ht
    obtain⟨a,vs,rfl,sa,ra⟩:=rx;exact⟨_,n,_,_,rfl,.inr (.inr ⟨a,vs,rfl,sa.sq,rfl⟩),fin (by decide) po⟩
   |ref m=>
    obtain⟨a,rfl,ha⟩:=rx;dsimp only at ht;split at ht
    ·rename_i xs hx;cases ht
     obtain⟨vs,hH,ra⟩:=rh.at' m a _ ha hx;exact⟨_,n,_,_,rfl,.inl (.lst hH),fin (by decide) po⟩
    ·rename_i xs hx;cases ht
     obtain⟨vs,hH,ra⟩:=rh.at' m a _ ha hx;exact⟨_,n,_,_,rfl,.inl (.dK hH),fin (by decide) po⟩
    ·cases ht
   |ty z=>cases ht
  ·exact po.elim
 ·exact po.elim
def mMt(ty:PV->PH->Bool)(g:PV->List PV->PH->Rs PV)(mo:Me)(ms:Ma):Me:=λδ h=>(mo δ h).bind λx h1=>if ty x h1=true then(ms δ h1).bind λps h2=>g x ps h2 else .bad
def An(ty:PV->PH->Bool)(g:PV->List PV->PH->Rs PV)(mo:Me):Me:=λδ h=>(mo δ h).bind λx h1=>if ty x h1=true then g x [] h1 else .bad
def rM(C:MC)(g:PV->List PV->PH->Rs PV):V->List V->Hp->VK->Prop:=λx xs H Q=>∃φ h p ps,RH C φ H h/\RV C φ H p x/\RVs C φ H ps xs/\post C φ H (g p ps h) Q
def MtS(C:MC)(k:Nat)(X:Cx)(T:String)(ty:PV->PH->Bool)(id:String)(g:PV->List PV->PH->Rs PV):Prop:=Cxt C k X->MtR X id (rM C g)/\∀φ H h p x,RH C φ H h->RV C φ H p x->ty p h=true->tyV C.K T x H
variable{ae apos:Pos}{mo:Me}{name:Str}{ty:PV->PH->Bool}
theorem Oc{o:Expr}{id:String}{g:PV->List PV->PH->Rs PV}(pa:PlainAttrs T)(slot:Slot T name id)(kj:typeOf (.builtin id)=pure (.type "method_descriptor"))(hm:MtS C k X T ty id g)(ho:SE C k X o mo)(ha:SA C k X (e::es) ms)(bo:Sh o name X.env (eval o X.env)=eval o X.env:=by rfl)(dj:((backTo ae (P3 (e::es) X.env)).all (λx=>!x.1)&&(backToKw ae (keywordEach [] X.env)).all (λx=>x.1.isSome)
   && decide ((e::es).length+([]:List Keyword).length+(if([]:List Keyword).isEmpty then 0 else 1)<30))=true:=by rfl)(bh:(apos.endLine == ae.line)=true:=by rfl)(hs:P3 (e::es) X.env=(false,eval e X.env)::P3 es X.env:=by rfl)(b7:(backTo ae (P3 es X.env)).any (·.1)=false:=by rfl):
  SE C k X (.Call (.Attribute o name apos) (e::es) [] ae) (mMt ty g mo ms):=λc=>(Lu pa slot kj (hm c).1 (ho c) (ha c) bo dj bh hs b7).imp λσ H Q h=>by
 obtain⟨φ,δ,h,rh,re,p⟩:=h;refine⟨φ,δ,h,rh,re,(post.bind p).imp ?_⟩;rintro v H1 ⟨φ1,x,h1,p1,t1,aa,ab,q1⟩;obtain⟨ht,q1⟩:=q1.ite;refine⟨by rw[c.K];exact(hm c).2 φ1 H1 h1 x v aa ab ht,φ1,δ,h1,aa,re.mono p1 t1,(postA.bind q1).imp ?_⟩;rintro vs H2 ⟨φ2,xs,h2,p2,t2,ah,b8,q2⟩;exact⟨φ2,h2,x,xs,ah,ab.mono p2 t2,b8,q2⟩
theorem MtR.imp{id:String}{r r':V->List V->Hp->VK->Prop}(h:MtR X id r)(i:∀x xs H Q,r' x xs H Q->r x xs H Q):MtR X id r':=λpins s σ H x xs v us Q I rx rs q=>h pins s σ H x xs v us Q I rx rs (i x xs H Q q)
def isL(x:PV)(h:PH):Bool:=match x with
 |.ref n=>(cQ h n).isSome
 |_=>false
theorem Ki{x:V}(rh:RH C φ H h)(rv:RV C φ H p x)(e:isL p h=true):tyV C.K "list" x H:=by
 cases p with
 |ref n=>
  obtain⟨a,rfl,ha⟩:=rv;obtain⟨xs,hx⟩:=Option.isSome_iff_exists.mp (show(cQ h n).isSome=true from e)
  obtain⟨vs,hH,ra⟩:=rh.at' n a _ ha (fV hx);exact .inl ⟨rfl,vs,SqL.of hH⟩
 |_=>cases e
def onL(f:List PV->List PV->Option (PV×List PV)):PV->List PV->PH->Rs PV:=λx ps h=>match x with
 |.ref n=>match cQ h n with
  |some xs=>match f xs ps with
   |some (r,ys)=>.ok r (h.set n (.lst ys))
   |none=>.bad
  |none=>.bad
 |_=>.bad
theorem Kj{f:List PV->List PV->Option (PV×List PV)}{x:V}{xs:List V}{Q:VK}(h:rM C (onL f) x xs H Q):∃φ l ps ys vs r zs,x=.ref l/\H l=some (.lst vs)/\RVs C φ H ys vs/\RVs C φ H ps xs/\f ys ps=some (r,zs)/\
  ∀(v:V)(ws:List V),RV C φ H r v->RVs C φ H zs ws->Q v (upd H l (.lst ws)):=by
 obtain⟨φ,h,p,ps,rh,rx,rs,po⟩:=h;unfold onL at po;cases p with
 |ref n=>
  obtain⟨a,rfl,ha⟩:=rx;dsimp only at po;cases e:cQ h n with
  |none=>rw[e]at po;exact po.elim
  |some ys=>
   rw[e]at po;dsimp only at po;obtain⟨vs,hH,ra⟩:=rh.at' n a _ ha (fV e);cases ef:f ys ps with
   |none=>rw[ef]at po;exact po.elim
   |some rz=>
    rw[ef]at po;obtain⟨r,zs⟩:=rz;exact⟨φ,a,ps,ys,vs,r,zs,rfl,hH,ra,rs,ef,λv ws rv cq=>po.lset rh ha hH cq rv⟩
 |_=>exact po.elim
def bA:List PV->List PV->Option (PV×List PV):=λxs ps=>match ps with
 |[p]=>if xs.length<PP then some (.non,xs++[p]) else none
 |_=>none
set_option tactic.hygienic true in
theorem Do:MtR X "list.append" (rM C (onL bA)):=MtR.imp (show MtR X "list.append" BX from vR) λx xs H Q h=>by
 obtain⟨φ,l,ps,ys,vs,r,zs,rfl,hH,ra,rs,ef,q⟩:=Kj h;unfold bA at ef;split at ef
 ·split at ef
  ·rename_i hz;cases ef
   obtain⟨v,rfl,rx⟩:=rs.one;exact⟨l,vs,v,rfl,rfl,hH,by rw[<-ra.length];exact hz,q .non _ rfl (ra.snoc rx)⟩
  ·cases ef
 ·cases ef
theorem EO:MtS C k X "list" isL "list.append" (onL bA):=λc=>⟨Do,λφ H h p x rh rv e=>Ki rh rv e⟩
def Mv(K:Py):R2:=λx y H Q=>∃a b ys,x=.ref a/\y=.ref b/\SqT K H a []/\SqT K H b ys/\Q (.ref b) H
theorem Hv:OpR X (QW .Add) (Mv X.K):=by
 intro pins s σ H x y v u Q I rx ry h;obtain⟨a,b,ys,rfl,rfl,ha,hb,q⟩:=h;cases rx
 cases ry
 obtain⟨its,r1,p1,_⟩:=I.tuple ha;obtain⟨cx,r2,p2,_⟩:=I.tuple hb;cases r1
 obtain⟨⟨cls,dd,data,sl⟩,ho,hc,n,hd⟩:=id p1;obtain⟨⟨oj,jm,data2,jr⟩,ik,d0,n2,hd2⟩:=id p2;simp only at hc hd d0 hd2;subst hc hd d0 hd2;exact concat_meets ⟨_,ho,rfl⟩ ⟨_,ik,rfl⟩ noFill_tuple_add seq_tuple_add PySem.F.slot_tuple_add PySem.F.entry_tuple_add (PySem.F.args_tuple_add_2 _ _)
   (tuple_addW0 a b ([]:List Value).toArray cx.toArray n n2 dd jm sl jr (by simp)) ⟨ho,ik,⟨.ref b,H,I,rfl,q⟩⟩
def bJ:PV->PV->PH->Rs PV:=λx y h=>match x,y with
 |.tup [],.tup ys=>.ok (.tup ys) h
 |x,y=>EG x y h
theorem Kk:OpS C k X (QW .Add) bJ:=λc=>((LU c).or (by have:=Hv (X:=X);rw[c.K]at this;exact this)).imp λx y H Q h=>by
 obtain⟨φ,h,p,q,rh,rx,ry,po⟩:=h;unfold bJ at po;split at po
 ·obtain⟨a,vs,rfl,sa,ra⟩:=rx;obtain⟨b,us,rfl,sb,rb⟩:=ry;have:vs=[]:=by cases vs <;> first|rfl|exact ra.elim
  subst this;exact .inr ⟨a,b,us,rfl,rfl,sa,sb,po.val rh ⟨b,us,rfl,sb,rb⟩⟩
 ·exact .inl ⟨φ,h,p,q,rh,rx,ry,po⟩
open PySem PySem.Spec PyProof.Rows
variable{C:MC}{k:Nat}{X:Cx}
theorem Mw:UnS C k X (unaryOp .USub) Ak:=λc=>by
 have h:UnR X (unaryOp .USub) (rU λi=>.int (-i)):=Jq;intro pins s σ H x v Q I rx q;refine h pins s σ H x v Q I rx ?_;obtain⟨φ,h,p,rh,rv,po⟩:=q;unfold Ak at po;cases p with
 |int i=>cases rv;exact⟨i,rfl,po.val rh rfl⟩
 |_=>exact po.elim
open PySem
@[irreducible]def Rs.W{α:Type}(r:Rs α)(Q:α->PH->Prop):Prop:=match r with
 |.ok a h=>Q a h
 |_=>False
structure FE where
 nx:Ev->PH->Prop
 rt:PV->PH->Prop
 bk:Ev->PH->Prop:=λ_ _=>False
 ct:Ev->PH->Prop:=λ_ _=>False
@[irreducible]def Fl.W(r:Fl)(E:FE):Prop:=match r with
 |.nx δ h=>E.nx δ h
 |.rt p h=>E.rt p h
 |.bk δ h=>E.bk δ h
 |.ct δ h=>E.ct δ h
 |_=>False
@[irreducible]def Lt(b:Ms)(E:FE)(δ:Ev)(h:PH):Prop:=(b δ h).W E
variable{h1:PH}{args:List PV}
section
unseal Rs.W Fl.W Lt
variable{α β:Type}{Q:α->PH->Prop}{E:FE}
@[simp]theorem rV{a:α}:(Rs.ok a h).W Q=Q a h:=(rfl)
@[simp]theorem OH:(Fl.nx δ h).W E=E.nx δ h:=(rfl)
@[simp]theorem OI:(Fl.rt p h).W E=E.rt p h:=(rfl)
@[simp]theorem Bj{Q:β->PH->Prop}{r:Rs α}{f:α->PH->Rs β}:(r.bind f).W Q=r.W λa h=>(f a h).W Q:=by cases r <;> rfl
@[simp]theorem Dp{r:Rs α}{f:α->PH->Fl}:(r.fl f).W E=r.W λa h=>(f a h).W E:=by cases r <;> rfl
theorem ER{Q':α->PH->Prop}{r:Rs α}(h:r.W Q)(i:∀a h,Q a h->Q' a h):r.W Q':=by cases r <;> first|exact i _ _ h|exact h
@[simp]theorem Oz{c:Prop}[Decidable c]{x y:Rs α}:(if c then x else y).W Q=if c then x.W Q else y.W Q:=by split <;> rfl
@[simp]theorem OA:(Rs.bad:Rs α).W Q=False:=(rfl)
@[simp]theorem Od:Fl.bad.W E=False:=(rfl)
theorem jV{r:Rs α}(w:r.W Q):∃a h,r=.ok a h/\Q a h:=by
 cases r with
 |ok a h=>exact⟨a,h,rfl,w⟩
 |exc=>exact w.elim
 |bad=>exact w.elim
variable{a b:Ms}{mc:Me}{t ta tb:Ev->PH->Rs Bool}{g g':PV->PV->PH->Rs PV}
theorem aD:(aG a b δ h).W E=(a δ h).W { E with nx:=Lt b E }:=by
 show(match a δ h with|.nx δ1 h1=>b δ1 h1|r=>r).W E=_
 cases a δ h <;> rfl
theorem now{b:Ms}(w:(b δ h).W E):Lt b E δ h:=w
@[simp]theorem OB:(bP δ h).W E=E.nx δ h:=(rfl)
@[simp]theorem OC:(Hs δ h).W E=E.ct δ h:=(rfl)
@[simp]theorem C6:(aS i m δ h).W E=(m δ h).W λp h=>E.nx (δ.set i (some p)) h:=by simp[aS]
@[simp]theorem OD{t:Mg}:(kF m t δ h).W E=(m δ h).W λp h=>∃δ',t p δ=some δ'/\E.nx δ' h:=by
 unfold kF;cases m δ h with
 |ok p h1=>
  show(match t p δ with|some δ'=>Fl.nx δ' h1|none=>.bad).W E=∃δ',t p δ=some δ'/\E.nx δ' h1
  cases t p δ <;> simp[Fl.W]
 |exc=>rfl
 |bad=>rfl
@[simp]theorem Mx:(kG m δ h).W E=(m δ h).W λ_ h=>E.nx δ h:=by simp[kG]
@[simp]theorem My:(aV m δ h).W E=(m δ h).W E.rt:=by simp[aV]
@[simp]theorem bE:(aX t a b δ h).W E=(t δ h).W λc h=>if c=true then(a δ h).W E else(b δ h).W E:=by
 unfold aX;rw[Dp]
 congr
 funext c h
 cases c <;> simp
@[simp]theorem Mz:mV i δ h=match yH δ i with|some p=>.ok p h|none=>.bad:=(rfl)
@[simp]theorem MA:mC p δ h=.ok p h:=(rfl)
@[simp]theorem Hw:aB g ma mb δ h=(ma δ h).bind λx h1=>(mb δ h1).bind λy h2=>g x y h2:=(rfl)
@[simp]theorem Oe{g:PV->PH->Rs PV}:mUn g ma δ h=(ma δ h).bind g:=(rfl)
@[simp]theorem Nc:aK m δ h=(m δ h).bind tru:=(rfl)
@[simp]theorem MB:lQ t δ h=(t δ h).bind λb h1=>.ok (!b) h1:=(rfl)
@[simp]theorem MD:jR ta tb δ h=(ta δ h).bind λb h1=>if b=true then tb δ h1 else .ok false h1:=by
 unfold jR;congr 1;funext b h1;cases b <;> simp
@[simp]theorem Nd:tQ ta tb δ h=(ta δ h).bind λb h1=>if b=true then .ok true h1 else tb δ h1:=by
 unfold tQ;congr 1;funext b h1;cases b <;> simp
@[simp]theorem Of:mIf t ma mb δ h=(t δ h).bind λb h1=>if b=true then ma δ h1 else mb δ h1:=by
 unfold mIf;congr 1;funext b h1;cases b <;> simp
def bl2(x:PV)(f g:Rs PV):Rs PV:=match x with
 |.bl true=>f
 |.bl false=>g
 |_=>.bad
@[simp]theorem Og{b:Bool}{f g:Rs PV}:bl2 (.bl b) f g=if b=true then f else g:=by cases b <;> simp[bl2]
set_option tactic.hygienic true in
@[simp]theorem ME:wK ma mb δ h=(ma δ h).bind λx h1=>bl2 x (mb δ h1) (.ok (.bl false) h1):=by
 unfold wK;first|rfl|(congr 1;funext x h1;cases x <;> first|rfl|(rename_i b;cases b <;> rfl))
@[simp]theorem Hx:bK ms δ h=(ms δ h).bind λxs h1=>if xs.length<=PP then .ok (.tup xs) h1 else .bad:=(rfl)
@[simp]theorem Nf:eJ ms δ h=(ms δ h).bind λxs h1=>if xs.length<=PP then .ok (.ref h1.length) (h1++[.lst xs]) else .bad:=(rfl)
@[simp]theorem Dq:cK δ h=.ok (.ref h.length) (h++[.dK []]):=(rfl)
@[simp]theorem C7:aC δ h=.ok [] h:=(rfl)
@[simp]theorem tS:aA m ms δ h=(m δ h).bind λx h1=>(ms δ h1).bind λxs h2=>.ok (x::xs) h2:=(rfl)
@[simp]theorem Kl{g:List PV->PH->Rs PV}:mCB g ms δ h=(ms δ h).bind g:=(rfl)
@[simp]theorem oQ{f:Fn}:aL n f ms δ h=(ms δ h).bind λps h1=>if ps.length=n then f ps h1 else .bad:=(rfl)
@[simp]theorem Ng:kE δ h=.ok none h:=(rfl)
def ES(x:PV)(h:PH):Rs (Option Int):=match x with
 |.int i=>.ok (some i) h
 |_=>.bad
@[simp]theorem Km{i:Int}:ES (.int i) h=.ok (some i) h:=(rfl)
@[simp]theorem OE:mP m δ h=(m δ h).bind ES:=(rfl)
@[simp]theorem Oh:mSl m ml mh δ h=(m δ h).bind λx h1=>(ml δ h1).bind λl h2=>(mh δ h2).bind λu h3=>vSl x l u h3:=(rfl)
@[simp]theorem Oi{g:PV->List PV->PH->Rs PV}:mMt ty g m ms δ h=(m δ h).bind λx h1=>if ty x h1=true then(ms δ h1).bind λps h2=>g x ps h2 else .bad:=(rfl)
@[simp]theorem Nh{g:PV->List PV->PH->Rs PV}:An ty g m δ h=(m δ h).bind λx h1=>if ty x h1=true then g x [] h1 else .bad:=(rfl)
@[simp]theorem iU:PP=16777216:=by rw[Qt]
theorem Hy{i j:Int}(c:(-18446744073709551616<i/\i<18446744073709551616)\/(-18446744073709551616<j/\j<18446744073709551616)):yI (.int i) (.int j) h=.ok (.int (i*j)) h:=by
 show(if A2 i j then _ else _)=_
 exact if_pos c
@[simp]theorem MF{i j:Int}(c:(-18446744073709551616<i/\i<18446744073709551616)\/(-18446744073709551616<j/\j<18446744073709551616)):vInt A2 (λi j=>i*j) (.int i) (.int j) h=.ok (.int (i*j)) h:=Hy c
@[simp]theorem Ni{i j:Int}(c:0<j/\j<1073741824):vInt E4 (λi j=>i/j) (.int i) (.int j) h=.ok (.int (i/j)) h:=if_pos c
@[simp]theorem Nj{i j:Int}(c:0<j):vInt (λ_ j=>0<j) (λi j=>i%j) (.int i) (.int j) h=.ok (.int (i%j)) h:=if_pos c
@[simp]theorem Nk{i j:Int}(c:0<=j/\j<=1000000/\-18446744073709551616<i/\i<18446744073709551616):vInt CF (λi j=>i ^ j.toNat) (.int i) (.int j) h=.ok (.int (i ^ j.toNat)) h:=by
 show(if CF i j then _ else _)=_
 refine if_pos ⟨c.1,c.2.1,?_⟩;obtain⟨_,_,h1,h2⟩:=c;omega
@[simp]theorem Nl{i j:Int}:vG (.int i) (.int j) h=.ok (.int (i-j)) h:=(rfl)
@[simp]theorem Np{i:Int}:Ak (.int i) h=.ok (.int (-i)) h:=(rfl)
@[simp]theorem Dr{i j:Int}:bJ (.int i) (.int j) h=.ok (.int (i+j)) h:=(rfl)
@[simp]theorem L5{y:Str}(c:x.length+y.length<=16777216):bJ (.str x) (.str y) h=.ok (.str (x++y)) h:=if_pos c
@[simp]theorem MG{f:Int->Int->Bool}{g:List Nat->List Nat->Bool}{i j:Int}:Dj f g (.int i) (.int j) h=.ok (.bl (f i j)) h:=(rfl)
@[simp]theorem Oj{b:Bool}:tru (.bl b) h=.ok b h:=(rfl)
@[simp]theorem MH:ofO (some p) h=.ok p h:=(rfl)
@[simp]theorem Hz{i:Int}:vIx (.tup xs) (.int i) h=ofO (atI xs i) h:=(rfl)
theorem cH{i:Int}(e:h[n]?=some (.lst xs)):vIx (.ref n) (.int i) h=ofO (atI xs i) h:=by simp[vIx,aO,e]
@[simp]theorem sC{z:Str}{i:Int}(c:z.length<=16777216):vIx (.str z) (.int i) h=ofO ((atI z.cps.toList i).map λc=>.str ⟨#[c]⟩) h:=if_pos c
theorem oR(e:h[n]?=some (.lst xs)):tR [.ref n] h=.ok (.int xs.length) h:=by simp[tR,aO,e]
@[simp]theorem Nq{i j:Int}:EL [.int i,.int j] h=.ok (.int (if j>i then j else i)) h:=(rfl)
@[simp]theorem MJ{i:Str}{c:String}:vH [.str i,.ty c] h=if c∈known then .ok (.bl (oP "str" c)) h else .bad:=(rfl)
theorem ET{c:String}(e:h[n]?=some (.lst xs)):vH [.ref n,.ty c] h=if c∈known then .ok (.bl (oP "list" c)) h else .bad:=by simp[vH,tyN,e]
theorem iV(e:h[n]?=some (.lst xs)):isL (.ref n) h=true:=by simp[isL,cQ,e]
theorem dH(e:h[n]?=some (.lst xs))(c:xs.length<16777216):onL bA (.ref n) [p] h=.ok .non (h.set n (.lst (xs++[p]))):=by simp[onL,cQ,e,bA,c]
theorem HA{α:Type}{xs:List α}{i:Int}(h0:0<=i)(h1:i<xs.length):atI xs i=xs[i.toNat]?:=by
 unfold atI ixN;rw[if_pos h0,if_pos h1];rfl
theorem EU{α:Type}{xs:List α}{x:α}:atI (xs++[x]) (-1)=some x:=by
 unfold atI ixN;rw[if_neg (by decide),if_pos (by simp;omega)];have:((-1:Int)+((xs++[x]).length:Int)).toNat=xs.length:=by simp;omega
 rw[this];simp
theorem pY{g:PH->Bool}{tg:Mg}{body:Ms}{E:FE}(I:Nat->Ev->PH->Prop):∀(xs:List PV)(k:Nat)(δ:Ev)(h:PH),I k δ h->
  (∀i x δ h,k<=i->xs[i-k]?=some x->I i δ h->g h=true/\∃δ1,tg x δ=some δ1/\(body δ1 h).W { nx:=I (i+1),ct:=I (i+1),rt:=E.rt,bk:=E.nx })->
  (∀δ h,I (k+xs.length) δ h->g h=true/\E.nx δ h)->(eI g tg body xs δ h).W E
 |[],k,δ,h,i0,_,fin=>by
  obtain⟨h1,h2⟩:=fin δ h i0;simp[eI,h1,h2]
 |x::xs,k,δ,h,i0,step,fin=>by
  obtain⟨h1,δ1,h2,h3⟩:=step k x δ h (PD _) (by simp) i0;have go:∀δ2 h2,I (k+1) δ2 h2->(eI g tg body xs δ2 h2).W E:=λδ2 h2 i2=>
   pY I xs (k+1) δ2 h2 i2 (λi y δ h hk hy=>step i y δ h (by omega) (by
    have:i-k=(i-(k+1))+1:=by omega
    rw[this,Rh];exact hy)) (λδ h hi=>fin δ h (by
    have e:k+(x::xs).length=k+1+xs.length:=by simp;omega
    rw[e];exact hi))
  unfold eI;rw[if_pos h1,h2]
  show Fl.W (match body δ1 h with|.nx δ2 h2=>eI g tg body xs δ2 h2|.ct δ2 h2=>eI g tg body xs δ2 h2|.bk δ2 h2=>.nx δ2 h2|r=>r) E
  cases e:body δ1 h with
  |nx δ2 h2=>rw[e]at h3;exact go δ2 h2 h3
  |ct δ2 h2=>rw[e]at h3;exact go δ2 h2 h3
  |bk δ2 h2=>rw[e]at h3;exact h3
  |rt p h2=>rw[e]at h3;exact h3
  |exc=>rw[e]at h3;exact h3
  |bad=>rw[e]at h3;exact h3
theorem Bk{j:Int}(I:Nat->Ev->PH->Prop)(e:ms δ h=.ok [.int j] h)(hj:-4611686018427387904<=j/\j<4611686018427387904)(h0:I 0 δ h)(step:∀(q:Nat) δ h,(q:Int)<j->I q δ h->(body (δ.set i (some (.int q))) h).W { nx:=I (q+1),ct:=I (q+1),rt:=E.rt,bk:=E.nx })(fin:∀δ h,I j.toNat δ h->E.nx δ h):(cT (iG ms) (gN i) body δ h).W E:=by
 unfold cT iG;rw[e];have jk:-(2 ^ 62)<=j/\j<2 ^ 62:=hj;simp only[Rs.bind_ok,C3,if_pos jk,Rs.fl_ok];refine pY I _ 0 δ h h0 (λq x δ h _ hx hi=>?_) (λδ h hi=>⟨rfl,fin δ h (by rw[bT,Nat.zero_add]at hi;exact hi)⟩);have hq:q<j.toNat:=by
  have:=(Pv.mp hx).1;rw[bT]at this;omega
 rw[Nat.sub_zero,oO _ _ _ hq]at hx;cases hx
 refine⟨rfl,_,rfl,?_⟩;rw[Int.zero_add];exact step q δ h (by omega) hi
theorem EV{tg:Mg}(I:Nat->Ev->PH->Prop)(e:m δ h=.ok (.tup xs) h\/m δ h=.ok (.fl xs) h)(h0:I 0 δ h)(step:∀(q:Nat) x δ h,xs[q]?=some x->I q δ h->∃δ1,tg x δ=some δ1/\(body δ1 h).W { nx:=I (q+1),ct:=I (q+1),rt:=E.rt,bk:=E.nx })(fin:∀δ h,I xs.length δ h->E.nx δ h):(cT (aU m) tg body δ h).W E:=by
 have go:(eI (λ_=>true) tg body xs δ h).W E:=pY I _ 0 δ h h0 (λq x δ h _ hx hi=>⟨rfl,step q x δ h (by simpa using hx) hi⟩) (λδ h hi=>⟨rfl,fin δ h (by simpa using hi)⟩)
 unfold cT aU;rcases e with e|e <;> rw[e] <;> exact go
theorem iW{tg:Mg}(I:Nat->Ev->PH->Prop)(e:m δ h=.ok (.ref n) h1)(hn:h1[n]?=some (.lst xs))(h0:I 0 δ h1)(keep:∀q δ h,q<=xs.length->I q δ h->h[n]?=some (.lst xs))(step:∀(q:Nat) x δ h,xs[q]?=some x->I q δ h->∃δ1,tg x δ=some δ1/\(body δ1 h).W { nx:=I (q+1),ct:=I (q+1),rt:=E.rt,bk:=E.nx })(fin:∀δ h,I xs.length δ h->E.nx δ h):(cT (aU m) tg body δ h).W E:=by
 have hk:∀{h:PH},h[n]?=some (.lst xs)->Bi n xs h=true:=λ{h} e=>by
  have e3:aO h n=some xs:=by unfold aO;rw[e]
  unfold Bi;rw[e3];exact PV.beqs_self xs
 unfold cT aU;rw[e];have e2:ofSeq (.ref n) h1=.ok ⟨xs,Bi n xs⟩ h1:=by
  have e3:aO h1 n=some xs:=by unfold aO;rw[hn]
  unfold ofSeq;simp only[e3]
 rw[Rs.bind_ok,e2,Rs.fl_ok];refine pY I _ 0 δ h1 h0 (λq x δ h _ hx hi=>?_) (λδ h hi=>?_)
 ·have f7:xs[q]?=some x:=by simpa using hx
  have:=(Pv.mp f7).1;exact⟨hk (keep q δ h (by omega) hi),step q x δ h f7 hi⟩
 ·have ay:I xs.length δ h:=by simpa using hi
  exact⟨hk (keep _ δ h (PD _) ay),fin δ h ay⟩
theorem bG{N:Nat}{Q:PV->PH->Prop}(w:(body (args.map some++Sm (N-args.length) none) h).W { nx:=λ_ h=>Q .non h,rt:=Q }):(mFn N body args h).W Q:=by
 unfold mFn;cases e:body (args.map some++Sm (N-args.length) none) h with
 |nx δ h'=>rw[e]at w;exact w
 |rt p h'=>rw[e]at w;exact w
 |_=>rw[e]at w;exact w.elim
@[simp]theorem OF:gN i p δ=some (δ.set i (some p)):=(rfl)
@[simp]theorem Ol{u:Mgs}{ps:List PV}:gTp n u (.tup ps) δ=if ps.length=n then u ps δ else none:=(rfl)
@[simp]theorem Om{t:Mg}{u:Mgs}{r:List PV}:gCn t u (p::r) δ=(t p δ).bind (u r):=(rfl)
@[simp]theorem On:gNl [] δ=some δ:=(rfl)
end
def Ext(h h':PH):Prop:=∀(n:Nat)(o:MO),h[n]?=some o->h'[n]?=some o
theorem Ext.refl(h:PH):Ext h h:=λ_ _ e=>e
variable{h2:PH}
theorem Ext.trans(a:Ext h h1)(b:Ext h1 h2):Ext h h2:=λn o e=>b n o (a n o e)
theorem Ext.app(h g:PH):Ext h (h++g):=λn o e=>by
 rw[QC (Pv.mp e).1];exact e
theorem Ext.len{h':PH}(e:Ext h h'):h.length<=h'.length:=by
 rcases SF h'.length h.length with z|z
 ·have:h[h'.length]?=some h[h'.length]:=by simp[z]
  have:=(Pv.mp (e _ _ this)).1;omega
 ·exact z
theorem aF{o:MO}:(h++[o])[h.length]?=some o:=by simp
variable{o':MO}
theorem bH{o:MO}(e:h[n]?=some o):(h.set n o')[n]?=some o':=Q3 (Pv.mp e).1
theorem aE{m:Nat}{o:MO}(e:h[m]?=some o)(d:n≠m):(h.set n o')[m]?=some o:=by rw[QQ d];exact e
def PV.pl:Nat->PV->Bool
 |_,.non=>true
 |_,.int _=>true
 |_,.str _=>true
 |n+1,.tup xs=>xs.all (PV.pl n)
 |_,_=>false
theorem C8{x:PV}{d:D}{ds:List D}(h1:x.d=some d)(h2:PV.ds xs=some ds):PV.ds (x::xs)=some (d::ds):=by simp[PV.ds,h1,h2]
theorem MK{ds:List D}(h:PV.ds xs=some ds):(PV.tup xs).d=some (.tup ds):=by simp[PV.d,h]
set_option tactic.hygienic true in
theorem eK{d:D}(h:(PV.tup xs).d=some d):∃ds,PV.ds xs=some ds/\d=.tup ds:=by
 unfold PV.d at h;split at h
 ·rename_i ds e;cases h;exact⟨ds,e,rfl⟩
 ·cases h
set_option tactic.hygienic true in
theorem kH{x:PV}{ds:List D}(h:PV.ds (x::xs)=some ds):∃d r,x.d=some d/\PV.ds xs=some r/\ds=d::r:=by
 unfold PV.ds at h;split at h
 ·rename_i d r e1 e2;cases h;exact⟨d,r,e1,e2,rfl⟩
 ·cases h
theorem pZ:∀(n:Nat)(x:PV),x.pl n=true->∃d,x.d=some d/\d.depth<=n:=by
 intro n
 induction n with
 |zero=>
  intro x h;cases x <;> first|exact⟨_,rfl,PD _⟩|(simp[PV.pl]at h)
 |succ n ih=>
  intro x h;cases x with
  |tup xs=>
   have h:xs.all (PV.pl n)=true:=h;have many:∀(xs:List PV),xs.all (PV.pl n)=true->∃ds,PV.ds xs=some ds/\D.depths ds<=n:=by
    intro xs
    induction xs with
    |nil=>intro _;exact⟨[],rfl,Qd _⟩
    |cons x xs ihx=>
     intro h;simp only[Sj,PZ]at h;obtain⟨d,h1,h2⟩:=ih x h.1;obtain⟨ds,h3,h4⟩:=ihx h.2;refine⟨d::ds,C8 h1 h3,?_⟩
     show max d.depth (D.depths ds)<=n
     omega
   obtain⟨ds,h1,h2⟩:=many xs h;refine⟨.tup ds,MK h1,?_⟩
   show D.depths ds+1<=n+1
   omega
  |_=>first|exact⟨_,rfl,Qd _⟩|(simp[PV.pl]at h)
theorem EW:∀(n:Nat)(x y:PV)(d e:D),x.pl n=true->y.pl n=true->x.d=some d->y.d=some e->eqD d e=decide (x=y):=by
 intro n
 induction n with
 |zero=>
  intro x y d e hx hy h1 h2;cases x <;> first|(simp[PV.pl]at hx;done)|skip
  all_goals cases h1
  all_goals cases y <;> first|(simp[PV.pl]at hy;done)|skip
  all_goals cases h2
  all_goals simp only[eqD]
  all_goals rw[RR]
  all_goals simp
 |succ n ih=>
  intro x y d e hx hy h1 h2;have lists:∀(xs ys:List PV)(ds es:List D),xs.all (PV.pl n)=true->ys.all (PV.pl n)=true->PV.ds xs=some ds->PV.ds ys=some es->fO ds es=decide (xs=ys):=by
   intro xs
   induction xs with
   |nil=>
    intro ys ds es _ _ h1 h2;cases h1
    cases ys with
    |nil=>cases h2;rfl
    |cons y ys=>obtain⟨d,r,_,_,rfl⟩:=kH h2;simp[fO]
   |cons x xs ihx=>
    intro ys ds es hx hy h1 h2;obtain⟨d,r,g1,g2,rfl⟩:=kH h1;simp only[Sj,PZ]at hx;cases ys with
    |nil=>cases h2;simp[fO]
    |cons y ys=>
     obtain⟨e,q,g3,g4,rfl⟩:=kH h2;simp only[Sj,PZ]at hy;simp only[fO,ih x y d e hx.1 hy.1 g1 g3,ihx ys r q hx.2 hy.2 g2 g4];rw[RR];simp
  cases x with
  |tup xs=>
   obtain⟨ds,g1,rfl⟩:=eK h1;cases y with
   |tup ys=>
    obtain⟨es,g2,rfl⟩:=eK h2;simp only[eqD,lists xs ys ds es hx hy g1 g2];rw[RR];simp
   |non=>cases h2;simp[eqD]
   |int j=>cases h2;simp[eqD]
   |str j=>cases h2;simp[eqD]
   |_=>simp[PV.pl]at hy
  |non=>
   cases h1
   cases y with
   |tup ys=>obtain⟨es,g2,rfl⟩:=eK h2;simp[eqD]
   |non=>cases h2;simp[eqD]
   |int j=>cases h2;simp[eqD]
   |str j=>cases h2;simp[eqD]
   |_=>simp[PV.pl]at hy
  |int i=>
   cases h1
   cases y with
   |tup ys=>obtain⟨es,g2,rfl⟩:=eK h2;simp[eqD]
   |non=>cases h2;simp[eqD]
   |int j=>cases h2;simp only[eqD];rw[RR];simp
   |str j=>cases h2;simp[eqD]
   |_=>simp[PV.pl]at hy
  |str i=>
   cases h1
   cases y with
   |tup ys=>obtain⟨es,g2,rfl⟩:=eK h2;simp[eqD]
   |non=>cases h2;simp[eqD]
   |int j=>cases h2;simp[eqD]
   |str j=>cases h2;simp only[eqD];rw[RR];simp
   |_=>simp[PV.pl]at hy
  |_=>simp[PV.pl]at hx
theorem C9{x:PV}{y:PV}(hx:x.pl 40=true)(hy:y.pl 40=true):yJ x y h=some (decide (x=y)):=by
 obtain⟨d,h1,h2⟩:=pZ 40 x hx;obtain⟨e,h3,h4⟩:=pZ 40 y hy;unfold yJ;rw[h1,h3];simp only[h2,if_true,EW 40 x y d e hx hy h1 h3]
theorem yN{x:PV}{y:PV}(hx:x.pl 40=true)(hy:y.pl 40=true):vEq x y h=.ok (.bl (decide (x=y))) h:=by unfold vEq;rw[C9 hx hy];rfl
theorem tT{x:PV}{y:PV}(hx:x.pl 40=true)(hy:y.pl 40=true):vNe x y h=.ok (.bl (!decide (x=y))) h:=by unfold vNe;rw[C9 hx hy];rfl
@[simp]theorem Nr{i j:Int}:vEq (.int i) (.int j) h=.ok (.bl (decide (i=j))) h:=by rw[yN rfl rfl];congr 2;simp
@[simp]theorem Nt{i j:Int}:vNe (.int i) (.int j) h=.ok (.bl (!decide (i=j))) h:=by rw[tT rfl rfl];congr 3;simp
@[simp]theorem HB{i j:Str}:vEq (.str i) (.str j) h=.ok (.bl (decide (i=j))) h:=by rw[yN rfl rfl];congr 2;simp
@[simp]theorem Nu{i j:Str}:vNe (.str i) (.str j) h=.ok (.bl (!decide (i=j))) h:=by rw[tT rfl rfl];congr 3;simp
variable{ys:List PV}
theorem tU{x:PV}(hx:x.pl 39=true)(hy:ys.all (PV.pl 39)=true):tL x ys=some (decide (x∈ys)):=by
 have key:∀ys:List PV,ys.all (PV.pl 39)=true->∃ds,PV.ds ys=some ds/\D.depths ds<=39/\∀d,x.d=some d->(ds.any λe=>eqD e d)=decide (x∈ys):=by
  intro ys
  induction ys with
  |nil=>intro _;exact⟨[],rfl,Qd _,λ_ _=>by simp⟩
  |cons y ys ih=>
   intro h;simp only[Sj,PZ]at h;obtain⟨e,h1,h2⟩:=pZ 39 y h.1;obtain⟨ds,h3,h4,h5⟩:=ih h.2;refine⟨e::ds,C8 h1 h3,?_,λd hd=>?_⟩
   ·show max e.depth (D.depths ds)<=39
    omega
   ·rw[RI,h5 d hd,EW 39 y x e d h.1 hx h1 hd,RR];simp only[SH,decide_eq_true_eq,P5];constructor
    ·rintro(h|h)
     ·exact .inl h.symm
     ·exact .inr h
    ·rintro(h|h)
     ·exact .inl h.symm
     ·exact .inr h
 obtain⟨d,h1,h2⟩:=pZ 39 x hx;obtain⟨ds,h3,h4,h5⟩:=key ys hy;unfold tL;rw[h1,h3];simp only[show D.depths ds<=40 by omega,if_true,h5 d h1]
theorem Ca{x:PV}(hx:x.pl 39=true)(hy:ys.all (PV.pl 39)=true):vIn x (.tup ys) h=.ok (.bl (decide (x∈ys))) h:=by
 unfold vIn Al;dsimp only;rw[tU hx hy];rfl
theorem Bl{x:PV}(hx:x.pl 39=true)(hy:ys.all (PV.pl 39)=true):pV x (.tup ys) h=.ok (.bl (!decide (x∈ys))) h:=by
 unfold pV Al;dsimp only;rw[tU hx hy];rfl
theorem HC{x:PV}(e:h[n]?=some (.lst ys))(hx:x.pl 39=true)(hy:ys.all (PV.pl 39)=true):vIn x (.ref n) h=.ok (.bl (decide (x∈ys))) h:=by
 have e3:aO h n=some ys:=by unfold aO;rw[e]
 unfold vIn Al;simp only[e3,tU hx hy];rfl
theorem EX{m:Nat}(e1:h[n]?=some (.lst xs))(e2:h[m]?=some (.lst ys))(hx:xs.all (PV.pl 39)=true)(hy:ys.all (PV.pl 39)=true):yJ (.ref n) (.ref m) h=some (decide (xs=ys)):=by
 have e3:iF (.ref n) h=some xs:=by unfold iF aO;simp only[e1]
 have e4:iF (.ref m) h=some ys:=by unfold iF aO;simp only[e2]
 have f7:(PV.tup xs).pl 40=true:=hx;have jt:(PV.tup ys).pl 40=true:=hy;obtain⟨d,h1,h2⟩:=pZ 40 _ f7;obtain⟨e,h3,h4⟩:=pZ 40 _ jt;obtain⟨ds,g1,rfl⟩:=eK h1;obtain⟨es,g2,rfl⟩:=eK h3;have h5:=EW 40 _ _ _ _ f7 jt h1 h3;have dg:D.depths ds+1<=40:=h2;have zy:fO ds es=decide (xs=ys):=by
  have:fO ds es=decide (PV.tup xs=PV.tup ys):=h5;rw[this,RR];simp
 unfold yJ;have n1:(PV.ref n).d=none:=rfl;rw[n1];simp only[e3,e4,g1,g2,show D.depths ds<=40 by omega,if_true,zy]
theorem yO{m:Nat}(e1:h[n]?=some (.lst xs))(e2:h[m]?=some (.lst ys))(hx:xs.all (PV.pl 39)=true)(hy:ys.all (PV.pl 39)=true):vEq (.ref n) (.ref m) h=.ok (.bl (decide (xs=ys))) h:=by unfold vEq;rw[EX e1 e2 hx hy];rfl
section
variable{α:Type}{a b c d e f g:α}{r:List α}
theorem yP{xs:List α}{v:α}(i:Nat)(h:xs[i]?=some v):atI xs (i:Int)=some v:=aR h
@[simp]theorem OJ:atI (a::r) 0=some a:=yP 0 rfl
@[simp]theorem OK:atI (a::b::r) 1=some b:=yP 1 rfl
@[simp]theorem OL:atI (a::b::c::r) 2=some c:=yP 2 rfl
theorem yQ{xs:List α}{i:Int}(h:xs≠[]):∃v,atI xs (i%(xs.length:Int))=some v/\v∈xs:=by
 have h0:0<xs.length:=List.length_pos_iff.mpr h;obtain⟨v,h1,h2⟩:=JO (xs:=xs) (i:=i%(xs.length:Int)) (Int.emod_nonneg _ (by omega)) (Int.emod_lt_of_pos _ (by omega));exact⟨v,h1,Qp h2⟩
end
theorem Ds{x y:PV}(hx:x.pl 40=true)(hy:y.pl 40=true)(d:x≠y)(h:PH):vNe x y h=.ok (.bl true) h:=by rw[tT hx hy,decide_eq_false d];rfl
open PySem PySem.Spec PyProof.Rows PySem.SeqAt
open PySem.AutoSeq1 (wpAny_loadPart')
open PySem.MeetsSeq PySem.MeetsSeq2 PySem.MeetsSeq3
def ML(A:Around)(s:Shared)(v u:Value)(b:Bool):Prop:=∀(prog:Program)(w:World)(E:Value->Shared->Prop)(Q:Value->Shared->Prop),Q (.bool b) s->wpAny (model prog w) A (richCompare .Lt v u) Q E s
def MM(A:Around)(s:Shared)(v u:Value)(d e:D):Prop:=EqAt A s v u (eqD d e)/\(eqD d e=false->∀b,ltD d e=some b->ML A s v u b)
abbrev wM(A:Around)(s:Shared):List Value->List Value->List D->List D->Prop:=λvs us ds es=>vs.length=ds.length/\us.length=es.length/\∀(j:Nat) v u d e,vs[j]?=some v->us[j]?=some u->ds[j]?=some d->es[j]?=some e->MM A s v u d e
theorem wM.tail{v:Value}{vs:List Value}{d e:D}{ds es:List D}(h:wM A s (v::vs) (u::us) (d::ds) (e::es)):MM A s v u d e/\wM A s vs us ds es:=
 ⟨h.2.2 0 v u d e rfl rfl rfl rfl,by have:=h.1;simpa using this,by have:=h.2.1;simpa using this,λj v u d e h1 h2 h3 h4=>h.2.2 (j+1) v u d e (by simpa using h1) (by simpa using h2) (by simpa using h3) (by simpa using h4)⟩
theorem yR(l b:Addr)(items bu:Array Value)(n n2:Nat)(dd jm:Option Addr)(sl jr:Array (Option Value))(ds es:List D)(c:Bool)(hc:yB ds es=some c):
  Meets (Builtin.«tuple.__lt__» ⟨[.ref l,.ref b],[]⟩)
   (λA R s=>s.heap.get? l=some { cls:=.type "tuple",dict:=dd,data:=.seq items n,slots:=sl }/\s.heap.get? b=some { cls:=.type "tuple",dict:=jm,data:=.seq bu n2,slots:=jr }/\
    wM A.in1 s items.toList bu.toList ds es/\R (.ok (.ret (.bool c))) s):=
 .of_wp λprog w A R s h=>by
  obtain⟨hp,g,d,tk,os⟩:=s;obtain⟨hl,hb,hit,h⟩:=h;have f2:=AutoSeq1.sub_tuple_tuple;have z1:items.size=ds.length:=by rw[<-hit.1];simp
  have z2:bu.size=es.length:=by rw[<-hit.2.1];simp
  wp_walk using wpAny_loadPart' hl,wpAny_loadPart' hb,wpAny_forIn_list _ (λrest b s'=>b.1=none/\s'=⟨hp,g,d,tk,os⟩/\∃(vs ws:List Value)(i7 gv:List D),rest=vs.zip ws/\
   wM A.in1 ⟨hp,g,d,tk,os⟩ vs ws i7 gv/\i7.length+bu.size=gv.length+items.size/\yB i7 gv=some c) _
  case turn=>
   rintro⟨y,x⟩ rest b s' ⟨hb',rfl,vs,ws,i7,gv,hz,hvi,hlen,hR⟩;cases vs with
   |nil=>rw[List.zip_nil_left]at hz;cases hz
   |cons v vs=>
    cases ws with
    |nil=>rw[List.zip_nil_right]at hz;cases hz
    |cons u ws=>
     rw[List.zip_cons_cons]at hz;injection hz with hyx hrest;injection hyx with hy hx;subst hy hx;cases i7 with
     |nil=>have:=hvi.1;simp at this
     |cons a i7=>
      cases gv with
      |nil=>have:=hvi.2.1;simp at this
      |cons e gv=>
       obtain⟨⟨h1,h2⟩,ht⟩:=wM.tail hvi;simp only[QY]at hlen;simp only[yB]at hR;refine Pi (h1 prog w _ _ ?_);cases q:eqD a e with
       |true=>
        rw[q,if_pos rfl]at hR
        wp_walk
        exact⟨rfl,rfl,_,_,_,_,hrest,ht,by omega,hR⟩
       |false=>
        rw[q,if_neg PY]at hR;have OO:=h2 q c hR prog w
        wp_walk using OO
        exact⟨_,rfl,by simpa using h⟩
  case fin=>
   rintro⟨b1,b2⟩ s' ⟨hb',rfl,vs,ws,i7,gv,hz,hvi,hlen,hR⟩;simp only at hb';subst hb';have hv:c=decide (items.size<bu.size):=by
    cases i7 with
    |nil=>
     cases gv with
     |nil=>
      simp only[List.length_nil]at hlen;simp only[yB]at hR;cases hR
      exact(decide_eq_false (by omega)).symm
     |cons e gv=>
      simp only[List.length_nil,QY]at hlen;simp only[yB]at hR;cases hR
      exact(decide_eq_true (by omega)).symm
    |cons a i7=>
     cases gv with
     |nil=>
      simp only[List.length_nil,QY]at hlen;simp only[yB]at hR;cases hR
      exact(decide_eq_false (by omega)).symm
     |cons e gv=>
      exfalso;cases vs with
      |nil=>have:=hvi.1;simp at this
      |cons v vs=>
       cases ws with
       |nil=>have:=hvi.2.1;simp at this
       |cons u ws=>rw[List.zip_cons_cons]at hz;cases hz
   rw[hv]at h
   wp_walk
   exact⟨_,rfl,by simpa[Builtin.Tuple.tupleCompareSizes] using h⟩
  case h=>
   exact⟨rfl,rfl,items.toList,bu.toList,ds,es,rfl,hit,by omega,hc⟩
theorem Oo(I:Inv X pins σ H s):∀(n:Nat)(d e:D)(A:Around)(x y:V)(v u:Value)(b:Bool),d.depth<=n->A.units+n<cLine->Rep X.K H d x->Rep X.K H e y->RelV x v->RelV y u->ltD d e=some b->ML A s v u b:=by
 intro n
 induction n with
 |zero=>
  intro d e A x y v u b hd hu hx hy rx ry hb;cases d with
  |tup ds=>exact absurd hd (by show ¬ D.depths ds+1<=0;omega)
  |int i=>
   cases e with
   |int j=>
    cases hx;cases hy;obtain⟨t,rfl⟩:=rx;obtain⟨t',rfl⟩:=ry;simp only[ltD]at hb;cases hb
    exact λprog w E Q q=>(PyProof.Rows.lt_int q:wpAny (model prog w) A (Qn .Lt _ _) Q E s)
   |_=>simp[ltD]at hb
  |str i=>
   cases e with
   |str j=>
    cases hx;cases hy;obtain⟨t,rfl⟩:=rx;obtain⟨t',rfl⟩:=ry;simp only[ltD]at hb;cases hb
    exact λprog w E Q q=>(PyProof.Rows.lt_str q:wpAny (model prog w) A (Qn .Lt _ _) Q E s)
   |_=>simp[ltD]at hb
  |_=>cases e <;> simp[ltD]at hb
 |succ n ih=>
  intro d e A x y v u b hd hu hx hy rx ry hb
  by_cases h0:d.depth<=n
  ·exact ih d e A x y v u b h0 (by omega) hx hy rx ry hb
  ·cases d with
   |tup ds=>
    cases e with
    |tup es=>
     have j4:D.depths ds<=n:=by have:D.depths ds+1<=n+1:=hd;omega
     obtain⟨a,vs,rfl,q,r⟩:=hx;cases rx
     obtain⟨its,rv,p,_⟩:=I.tuple q;obtain⟨a',fb,rfl,q',r'⟩:=hy;cases ry
     obtain⟨its',ax,p',_⟩:=I.tuple q';have hb':yB ds es=some b:=by simpa[ltD] using hb
     obtain⟨⟨cls,dd,data,sl⟩,ho,hc,m,l0⟩:=id p;obtain⟨⟨oj,jm,data2,jr⟩,ik,d0,m2,hd2⟩:=id p';simp only at hc l0 d0 hd2;subst hc l0 d0 hd2;intro prog w E Q hq;refine richCompare_meets_room (op:=.Lt) ⟨_,ho,rfl⟩ ⟨_,ik,rfl⟩ PySem.F.slot_tuple_lt PySem.F.entry_tuple_lt (PySem.F.args_tuple_lt_2 _ _) (yR a a' its.toArray its'.toArray m m2 dd jm sl jr ds es b hb')
      ⟨ho,ik,⟨?_,?_,?_⟩,show Value.bool b≠Value.notImplemented/\Q (.bool b) s from⟨(λx=>nomatch x),hq⟩⟩ (by omega)
     ·have l1:=r.length;have l3:=rv.length
      show its.length=ds.length
      omega
     ·have l1:=r'.length;have l3:=ax.length
      show its'.length=es.length
      omega
     ·intro j v u d e h1 h2 h3 h4;obtain⟨xv,ki,ir⟩:=r.at h3;obtain⟨yv,k9,ja⟩:=r'.at h4;obtain⟨xu,jd,cy⟩:=rv.get ki;obtain⟨yu,iu,bz⟩:=ax.get k9;have e1:v=xu:=by
       have:its[j]?=some v:=h1;rw[jd]at this;exact(P4 this).symm
      have e2:u=yu:=by
       have:its'[j]?=some u:=h2;rw[iu]at this;exact(P4 this).symm
      subst e1 e2;have uk:=D.depths_le h3;refine⟨Hg I (n:=n) (by omega) ?_ ir ja cy bz,λ_ b hb=>ih d e _ xv yv v u b (by omega) ?_ ir ja cy bz hb⟩
      all_goals (show A.units+1+n<cLine;omega)
    |_=>simp[ltD]at hb
   |_=>exact absurd (Qd n) h0
variable{C:MC}{k:Nat}{X:Cx}
def MN(x y:PV):Option Bool:=match x.d,y.d with
 |some d,some e=>if d.depth<=40 then ltD d e else none
 |_,_=>none
def wN:PV->PV->PH->Rs PV:=λx y h=>match x,y with
 |.tup xs,.tup ys=>ofB (MN (.tup xs) (.tup ys)) h
 |x,y=>vLt x y h
theorem Kn(hu:X.A.units+64<cLine)(K:Py)(hK:X.K=K):OpR X (Qn .Lt) (λx y H Q=>∃d e b,Rep K H d x/\Rep K H e y/\d.depth<=40/\ltD d e=some b/\Q (.bl b) H):=by
 subst hK;intro pins s σ H x y v u Q I rx ry h;obtain⟨d,e,b,hx,hy,hd,hb,q⟩:=h;exact Oo I 40 d e X.A x y v u b hd (by omega) hx hy rx ry hb X.prog X.w X.xe _ ⟨.bl _,H,I,rfl,q⟩
set_option tactic.hygienic true in
theorem Ko:OpS C k X (Qn .Lt) wN:=λc=>((Kn c.hu64 C.K c.K).or (O3 c)).imp λx y H Q h=>by
 obtain⟨φ,h,p,q,rh,rx,ry,po⟩:=h;unfold wN at po;split at po
 ·obtain⟨b,e,po⟩:=po.ofB;unfold MN at e;split at e
  ·rename_i d e' h1 h2;split at e
   ·rename_i hd;exact .inl ⟨d,e',b,rx.rep h1,ry.rep h2,hd,e,po.val rh rfl⟩
   ·cases e
  ·cases e
 ·exact .inr ⟨φ,h,p,q,rh,rx,ry,po⟩
@[simp]theorem L6{i j:Int}:wN (.int i) (.int j) h=.ok (.bl (decide (i<j))) h:=(rfl)
open PySem PySem.Spec PyProof.Rows
variable{C:MC}{k:Nat}{X:Cx}
theorem Dt:Cxt C k X->bS X (.builtin "sum") (λxs H Q=>∃(p:Addr)(ns:List Int),xs=[.ref p]/\SqL C.K H p (ns.map V.int)/\Q (.int ns.sum) H):=λc=>by
 intro pins s σ H xs us Q I r h;obtain⟨p,ns,rfl,hq,q⟩:=h;obtain⟨u,rfl,ru⟩:=vals1 r;cases ru
 rw[<-c.K]at hq;obtain⟨its,rv,pl,hz⟩:=I.list hq;have hi:IntsAre its ns:=intsAre_of rv;obtain⟨ys,hy⟩:=hi.allInts.items;have hl:=pl.isList;rw[hy]at hl;refine sum_intListG (I.ok.hd c.calm) hl λh' tk t' hk=>?_;have e:preSum (numAt ys) ys.size=ns.sum:=by
  have e1:=preSum_eq ys ys.size;rw[List.take_of_length_le (by simp)]at e1;rw[e1,<-nums_intItems,<-hy];have:=hi.numsOf;rw[show its.toArray.toList=its from rfl,this]
 rw[e];exact⟨.int ns.sum,H,I.kept hk,⟨_,rfl⟩,q⟩
def wO:List PV->Option (List Int)
 |[]=>some []
 |.int i::r=>(wO r).map (i::·)
 |_::_=>none
theorem Cb{φ:List Addr}{H:Hp}:∀{xs:List PV}{vs:List V}{ns:List Int},RVs C φ H xs vs->wO xs=some ns->vs=ns.map V.int
 |[],[],_,_,e=>by cases e;rfl
 |x::xs,v::vs,ns,⟨h,r⟩,e=>by
  cases x with
  |int i=>
   cases h
   simp only[wO,Qa]at e;obtain⟨m,e,rfl⟩:=e;rw[Cb r e];rfl
  |_=>cases e
 |[],_::_,_,h,_=>h.elim
 |_::_,[],_,h,_=>h.elim
theorem Du(ns:List Int):wO (ns.map PV.int)=some ns:=by
 induction ns with
 |nil=>rfl
 |cons n ns ih=>simp[wO,ih]
def Ao:List PV->PH->Rs PV:=λxs h=>match xs with
 |[x]=>match iF x h with
  |some ys=>match wO ys with
   |some ns=>.ok (.int ns.sum) h
   |none=>.bad
  |none=>.bad
 |_=>.bad
set_option tactic.hygienic true in
theorem MP:oI C k X (.builtin "sum") Ao:=λc=>(Dt c).imp λvs H Q h=>by
 obtain⟨φ,h,ps,rh,rv,po⟩:=h;unfold Ao at po;split at po
 ·obtain⟨v,rfl,rx⟩:=rv.one;split at po
  ·rename_i ys e;split at po
   ·rename_i ns en;obtain⟨a,vs,rfl,sa,ra⟩:=oJ rh rx e;rw[Cb ra en]at sa;exact⟨a,ns,rfl,sa,po.val rh rfl⟩
   ·exact po.elim
  ·exact po.elim
 ·exact po.elim
theorem tV(e:h[n]?=some (.lst (ns.map PV.int))):Ao [.ref n] h=.ok (.int ns.sum) h:=by
 have e1:iF (.ref n) h=some (ns.map PV.int):=by unfold iF aO;simp only[e]
 unfold Ao;simp only[e1,Du]
open Classical in
noncomputable def Bm:PV->PV->PH->Rs PV:=λx y h=>match x,y with
 |.str z,.int n=>if z.length<=16/\-(2 ^ 63)<=n/\n<=1000 then .ok (.str (Txt.mul z n)) h else .bad
 |_,_=>.bad
theorem MQ:OpS C k X (QW .Mult) Bm:=λc=>by
 intro pins s σ H x y v u Q I rx ry h;obtain⟨φ,h,p,q,rh,rp,rq,po⟩:=h;unfold Bm at po;split at po
 ·cases rp;cases rq;obtain⟨t,rfl⟩:=rx;obtain⟨t',rfl⟩:=ry;obtain⟨⟨h1,h2,h3⟩,po⟩:=po.ite;refine PySem.W.KXi.mul rfl h1 h2 (by omega) λt'' tk _ _=>⟨.str _,H,I.tok _,⟨_,rfl⟩,po.val rh rfl⟩
 ·exact po.elim
open PySem
@[simp]theorem Nv{lo:Option Int}{hi:Option Int}{z:Str}(c:z.length<=16777216):vSl (.str z) lo hi h=.ok (.str (Sv z lo hi)) h:=if_pos c
@[simp]theorem Oq{lo:Option Int}{hi:Option Int}:vSl (.fl xs) lo hi h=.ok (.ref h.length) (h++[.lst (cN xs lo hi)]):=(rfl)
theorem sD{lo:Option Int}{hi:Option Int}(e:h[n]?=some (.lst xs)):vSl (.ref n) lo hi h=.ok (.ref h.length) (h++[.lst (cN xs lo hi)]):=by
 have e3:aO h n=some xs:=by unfold aO;rw[e]
 unfold vSl;simp only[e3]
@[simp]theorem Kr{x:PV}:kC x .non h=.ok (.bl (!tO x)) h:=(rfl)
section
variable{tg:Mg}{g:PH->Bool}
theorem yS{δ0:Ev}{Q:PV->PH->Prop}(I:Nat->PH->Prop):∀(xs:List PV)(k:Nat)(h:PH),I k h->
  (∀i x h,k<=i->xs[i-k]?=some x->I i h->g h=true/\∃δ1,tg x δ0=some δ1/\(tst δ1 h).W λb h'=>if b=true then(elt δ1 h').W λp jo=>∃ys,jo[n]?=some (.lst ys)/\ys.length<16777216/\I (i+1) (jo.set n (.lst (ys++[p]))) else I (i+1) h')->
  (∀h,I (k+xs.length) h->g h=true/\Q (.ref n) h)->(jS g tg tst elt δ0 n xs h).W Q
 |[],k,h,i0,_,fin=>by
  obtain⟨h1,h2⟩:=fin h i0;simp[jS,h1,h2]
 |x::xs,k,h,i0,step,fin=>by
  obtain⟨h1,δ1,h2,h3⟩:=step k x h (PD _) (by simp) i0;have go:∀h2,I (k+1) h2->(jS g tg tst elt δ0 n xs h2).W Q:=λh2 i2=>
   yS I xs (k+1) h2 i2 (λi y h hk hy=>step i y h (by omega) (by
    have:i-k=(i-(k+1))+1:=by omega
    rw[this,Rh];exact hy)) (λh hi=>fin h (by
    have e:k+(x::xs).length=k+1+xs.length:=by simp;omega
    rw[e];exact hi))
  unfold jS;rw[if_pos h1,h2]
  show(Rs.bind (tst δ1 h) _).W Q
  rw[Bj];refine ER h3 λb h' hb=>?_;cases b with
  |false=>exact go h' (by simpa using hb)
  |true=>
   show(Rs.bind (elt δ1 h') _).W Q
   rw[Bj];refine ER (show(elt δ1 h').W _ from by simpa using hb) λp jo hp=>?_
   obtain⟨ys,e,hz,hi⟩:=hp;have e':cQ jo n=some ys:=by unfold cQ;rw[e]
   simp[e',hz];exact go _ hi
theorem wQ{α:Type}{ys:List α}{emb:α->PV}(f:α->Option PV)(e:mi δ h=.ok ⟨ys.map emb,g⟩ h1)(hg:∀h,Ext h1 h->g h=true)(hz:ys.length<=16777216)(step:∀y∈ys,∃δ1,tg (emb y) (fQ js δ)=some δ1/\∀h,Ext h1 h->match f y with
   |none=>tst δ1 h=.ok false h
   |some p=>tst δ1 h=.ok true h/\elt δ1 h=.ok p h):bV js mi tg tst elt δ h=.ok (.ref h1.length) (h1++[.lst (ys.filterMap f)]):=by
 have w:(bV js mi tg tst elt δ h).W λp h'=>p=.ref h1.length/\h'=h1++[.lst (ys.filterMap f)]:=by
  unfold bV;rw[e,Rs.bind_ok];refine yS (λi h'=>h'=h1++[.lst ((ys.take i).filterMap f)]) (ys.map emb) 0 _ (by simp) (λi x h' _ hx hi=>?_) (λh' hi=>?_)
  ·subst hi;have hx:(ys.map emb)[i]?=some x:=by simpa using hx
   rw[PQ]at hx;obtain⟨y,hy,rfl⟩:=Qa.mp hx;have OR:=(Pv.mp hy).1;obtain⟨δ1,ht,hs⟩:=step y (Qp hy);have hs:=hs (h1++[.lst ((ys.take i).filterMap f)]) (Ext.app _ _);have htk:ys.take (i+1)=ys.take i++[y]:=by rw[QP,hy];rfl
   refine⟨hg _ (Ext.app _ _),δ1,ht,?_⟩;cases ef:f y with
   |none=>
    rw[ef]at hs;rw[hs];simp[htk,ef]
   |some p=>
    rw[ef]at hs;rw[hs.1];simp[hs.2];refine⟨?_,by simp[htk,ef]⟩;have:=List.length_filterMap_le f (ys.take i);rw[QK]at this;omega
  ·subst hi;simp;exact hg _ (Ext.app _ _)
 obtain⟨p,h',e,rfl,rfl⟩:=jV w;exact e
theorem EY(e:m δ h=.ok (.ref n) h1)(hn:h1[n]?=some (.lst xs)):aU m δ h=.ok ⟨xs,Bi n xs⟩ h1:=by
 unfold aU;have e3:aO h1 n=some xs:=by unfold aO;rw[hn]
 rw[e,Rs.bind_ok];unfold ofSeq;simp only[e3]
theorem EZ(hn:h1[n]?=some (.lst xs)):∀h,Ext h1 h->Bi n xs h=true:=λh hx=>by
 have e3:aO h n=some xs:=by unfold aO;rw[hx _ _ hn]
 unfold Bi;rw[e3];exact PV.beqs_self xs
theorem F0(e:m δ h=.ok (.tup xs) h1):aU m δ h=.ok ⟨xs,λ_=>true⟩ h1:=by
 unfold aU;rw[e];rfl
theorem fW{α:Type}{ys:List α}{emb:α->PV}(f:α->Option PV)(e:m δ h=.ok (.ref n) h1)(hn:h1[n]?=some (.lst (ys.map emb)))(hz:ys.length<=16777216)(step:∀y∈ys,∃δ1,tg (emb y) (fQ js δ)=some δ1/\∀h,Ext h1 h->match f y with
   |none=>tst δ1 h=.ok false h
   |some p=>tst δ1 h=.ok true h/\elt δ1 h=.ok p h):bV js (aU m) tg tst elt δ h=.ok (.ref h1.length) (h1++[.lst (ys.filterMap f)]):=
 wQ f (EY e hn) (EZ hn) hz step
theorem wR{α:Type}{ys:List α}{emb:α->PV}(f:α->Option PV)(e:m δ h=.ok (.tup (ys.map emb)) h1)(hz:ys.length<=16777216)(step:∀y∈ys,∃δ1,tg (emb y) (fQ js δ)=some δ1/\∀h,Ext h1 h->match f y with
   |none=>tst δ1 h=.ok false h
   |some p=>tst δ1 h=.ok true h/\elt δ1 h=.ok p h):bV js (aU m) tg tst elt δ h=.ok (.ref h1.length) (h1++[.lst (ys.filterMap f)]):=
 wQ f (F0 e) (λ_ _=>rfl) hz step
theorem filterMap_some{α β:Type}(f:α->β)(xs:List α):xs.filterMap (λx=>some (f x))=xs.map f:=by
 induction xs with
 |nil=>rfl
 |cons x xs ih=>simp[ih]
end
open PySem PySem.Spec PyProof.Rows
mutual
theorem F1(I:Inv X pins σ H s)(hK:X.K=C.K):∀(n:Nat){p:PV}{v:V}{u:Value},p.ky n=true->RV C φ H p v->RelV v u->HR s.heap p u
 |_,.int i,v,u,_,r,ru=>by cases r;exact ru
 |_,.str i,v,u,_,r,ru=>by cases r;exact ru
 |n+1,.tup ps,v,u,hk,r,ru=>by
  obtain⟨a,vs,rfl,q,rs⟩:=r;cases ru
  rw[<-hK]at q;obtain⟨its,rv,p,_⟩:=I.tuple q;exact⟨a,its,rfl,p,Cc I hK n (Qf.mp hk) rs rv⟩
 |0,.tup _,_,_,hk,_,_=>by cases hk
 |n,.non,_,_,hk,_,_=>by cases n <;> cases hk
 |n,.bl _,_,_,hk,_,_=>by cases n <;> cases hk
 |n,.ref _,_,_,hk,_,_=>by cases n <;> cases hk
 |n,.ty _,_,_,hk,_,_=>by cases n <;> cases hk
 |n,.fl _,_,_,hk,_,_=>by cases n <;> cases hk
theorem Cc(I:Inv X pins σ H s)(hK:X.K=C.K):∀(n:Nat){ps:List PV}{vs:List V}{us:List Value},(∀p∈ps,p.ky n=true)->RVs C φ H ps vs->aI vs us->HRs s.heap ps us
 |_,[],[],us,_,_,ru=>by cases ru;trivial
 |n,p::ps,v::vs,us,hk,r,ru=>by
  cases ru with
  |cons h t=>exact⟨F1 I hK n (hk p PN) r.1 h,Cc I hK n (λq hq=>hk q (PK _ hq)) r.2 t⟩
 |_,[],_::_,_,_,r,_=>r.elim
 |_,_::_,[],_,_,r,_=>r.elim
end
abbrev Ap:List (PV×Addr×V)->List (PV×Addr×Value)->Prop:=Paired λp q=>p.1=q.1/\p.2.1=q.2.1/\RelV p.2.2 q.2.2
def HD(C:MC)(φ:List Addr)(H:Hp)(X:Cx)(s:Shared)(a:Addr)(kvs:List (PV×PV)):Prop:=
 ∃ks xs,RKd C φ H kvs ks/\Ap ks xs/\xs.length<=PP/\(a == QG)=false/\s.heap.DictOfH (rH X.prog X.w) a xs
def bI(h:PH)(n:Nat):Option (List (PV×PV)):=match h[n]? with
 |some (.dD kvs)=>some kvs
 |some (.dK [])=>some []
 |_=>none
def PV.isKt:PV->Bool
 |.tup xs=>(PV.tup xs).ky 6
 |_=>false
theorem sE(h:p.isKt=true):p.ky 6=true:=by cases p <;> first|exact h|cases h
theorem lH(h:p.isKt=true)(r:RV C φ H p v):∃b,v=.ref b:=by
 cases p <;> first|(obtain⟨b,_,e,_⟩:=r;exact⟨b,e⟩)|cases h
variable{kvs:List (PV×PV)}
set_option tactic.hygienic true in
theorem rK(I:Inv X pins σ H s)(hK:X.K=C.K)(hw:X.w=C.w)(rh:RH C φ H h)(ha:φ[n]?=some a)(e:bI h n=some kvs):HD C φ H X s a kvs/\Mut (H a)/\rE (H a):=by
 unfold bI at e;split at e
 ·rename_i kv hk;cases e
  obtain⟨ks,hH,r⟩:=rh.at' n a _ ha hk;have hO:bC X.prog X.w H s.heap a (dDO C.w a ks):=I.hok a _ hH;obtain⟨⟨hz,hm,xs,rx,o,es,ep,h1,h2,h3,h4,h5⟩,_⟩:=hO;refine⟨⟨ks,xs,r,rx,by rw[<-Qz rx];exact hz,hm,o,es,ep,h1,h2,h3,?_,?_,h5⟩,by rw[hH];exact Re,by rw[hH];exact Re⟩
  ·rw[h4,<-hw];rfl
  ·have all:∀{l:List (PV×PV)}{m:List (PV×Addr×V)}{z:List (PV×Addr×Value)},RKd C φ H l m->Ap m z->∀x∈z,(rH X.prog X.w).is s.heap x.1 x.2.1:=by
    intro l m z q;unfold RKd at q
    induction q generalizing z with
    |nil=>intro rz x hx;cases rz;cases hx
    |cons hq t ih=>
     intro rz x hx;cases rz with
     |cons hz' tz=>
      rcases P5.mp hx with e|hx
      ·subst e;refine⟨?_,?_⟩
       ·rw[<-hz'.1,<-hq.1];exact hq.2.1
       ·rw[<-hz'.1,<-hq.1,<-hz'.2.1];exact F1 I hK 6 hq.2.1 hq.2.2.1 rfl
      ·exact ih tz x hx
   exact all r rx
 ·rename_i hk;cases e
  obtain⟨ks,hH,r⟩:=rh.at' n a _ ha hk;have:ks=[]:=by cases r;rfl
  subst this;obtain⟨z,hd,vs,rel,o,es,ep,h1,h2,h3,h4,h5,h6⟩:=vU I.hok hH;have:vs=[]:=by cases rel;rfl
  subst this;refine⟨⟨[],[],.nil,.nil,Qd _,hd,o,es,ep,h1,h2,h3,?_,(λx hx=>nomatch hx),List.nodup_nil⟩,by rw[hH];exact Re,by rw[hH];exact Re⟩;cases he:es.toList with
  |nil=>rfl
  |cons y ys=>rw[he]at h5;cases h5
 ·cases e
variable{ks:List (PV×Addr×V)}
theorem HD.val{a:Addr}{xs:List (PV×Addr×Value)}(r:RKd C φ H kvs ks)(rx:Ap ks xs)(k:PV):match aM kvs k,(atKey xs k).map (·.2) with
  |some p,some u=>∃v,RelV v u/\RV C φ H p v
  |none,none=>True
  |_,_=>False:=by
 unfold RKd at r
 induction r generalizing xs with
 |nil=>cases rx;trivial
 | @cons p q ps qs h t ih=>
  cases rx with
  | @cons q' x qs' xs' hx tx=>
   obtain⟨pk,pv⟩:=p
   by_cases e:pk=k
   ·have e':x.1=k:=hx.1.symm.trans (h.1.symm.trans e);have b:atKey (x::xs') k=some x.2:=by simp[atKey,Qv,e']
    rw[b];unfold aM;rw[if_pos e];exact⟨_,hx.2.2,h.2.2.2⟩
   ·have e':¬ x.1=k:=λz=>e (h.1.trans (hx.1.trans z));have b:atKey (x::xs') k=atKey xs' k:=by simp[atKey,Qv,e']
    rw[b];unfold aM;rw[if_neg e];exact ih tx
def fB{κ:Type}[DecidableEq κ](kvs:List (κ×PV))(k:κ)(p:PV):List (κ×PV):=if(aM kvs k).isSome then kvs.map (λkv=>if kv.1=k then(kv.1,p) else kv) else kvs++[(k,p)]
theorem HD.replace{a:Addr}{xs:List (PV×Addr×Value)}(r:RKd C φ H kvs ks)(rx:Ap ks xs)(k:PV)(rp:RV C φ H p v)(ru:RelV v u):
  ∃cp,RKd C φ H (kvs.map λkv=>if kv.1=k then(kv.1,p) else kv) cp/\Ap cp (xs.map (putAt k u)):=by
 unfold RKd at r
 induction r generalizing xs with
 |nil=>cases rx;exact⟨[],.nil,.nil⟩
 | @cons pp q ps qs h t ih=>
  cases rx with
  | @cons q' x qs' xs' hx tx=>
   obtain⟨cp,r1,r2⟩:=ih tx
   by_cases e:pp.1=k
   ·refine⟨(q.1,q.2.1,v)::cp,.cons ?_ r1,.cons ?_ r2⟩
    ·simp only[if_pos e];exact⟨h.1,h.2.1,h.2.2.1,rp⟩
    ·unfold putAt;rw[if_pos (hx.1.symm.trans (h.1.symm.trans e))];exact⟨hx.1,hx.2.1,ru⟩
   ·refine⟨q::cp,.cons ?_ r1,.cons ?_ r2⟩
    ·simp only[if_neg e];exact h
    ·unfold putAt;rw[if_neg λz=>e (h.1.trans (hx.1.trans z))];exact hx
theorem HD.put{a b:Addr}{xs:List (PV×Addr×Value)}(r:RKd C φ H kvs ks)(rx:Ap ks xs){k:PV}(hk:k.ky 6=true)(rk:RV C φ H k (.ref b))(rp:RV C φ H p v)(ru:RelV v u):
  ∃cp,RKd C φ H (fB kvs k p) cp/\Ap cp (storedH xs k b u):=by
 have hv:=HD.val (a:=b) r rx k;unfold fB storedH;cases e1:aM kvs k with
 |some p0=>
  rw[e1]at hv;cases e2:atKey xs k with
  |none=>rw[e2]at hv;exact hv.elim
  |some z=>exact HD.replace (a:=b) r rx k rp ru
 |none=>
  rw[e1]at hv;cases e2:atKey xs k with
  |some z=>rw[e2]at hv;exact hv.elim
  |none=>exact⟨ks++[(k,b,v)],Paired.snoc r ⟨rfl,hk,rk,rp⟩,Paired.snoc rx ⟨rfl,rfl,ru⟩⟩
theorem HD.isSome{xs:List (PV×Addr×Value)}(r:RKd C φ H kvs ks)(rx:Ap ks xs)(k:PV):(atKey xs k).isSome=(aM kvs k).isSome:=by
 have hv:=HD.val (a:=0) r rx k;cases e1:aM kvs k with
 |some p0=>
  rw[e1]at hv;cases e2:atKey xs k with
  |none=>rw[e2]at hv;exact hv.elim
  |some z=>rfl
 |none=>
  rw[e1]at hv;cases e2:atKey xs k with
  |some z=>rw[e2]at hv;exact hv.elim
  |none=>rfl
theorem tW(I:Inv X pins σ H s)(hK:X.K=C.K){b:Addr}(hk:p.isKt=true)(r:RV C φ H p (.ref b)):(rH X.prog X.w).is s.heap p b:=⟨sE hk,F1 I hK 6 (sE hk) r rfl⟩
theorem Cxt.room6{k:Nat}(c:Cxt C k X):(rH X.prog X.w).room X.A.in1:=by
 have:=c.hu64
 show X.A.units+1+6<cLine
 omega
def fK(x y:PV)(h:PH):Option (Option PV):=match y with
 |.ref n=>if x.isKt=true then(bI h n).map λkvs=>aM kvs x else none
 |_=>none
def Cd(C:MC):V->V->Hp->(List Addr->Option PV->Prop)->Prop:=λx y H R=>∃φ h p n a kvs,RH C φ H h/\RV C φ H p x/\y=.ref a/\φ[n]?=some a/\bI h n=some kvs/\p.isKt=true/\R φ (aM kvs p)
set_option tactic.hygienic true in
theorem mJ{q:PV}{x:V}{o:Option PV}{R:List Addr->Option PV->Prop}(rh:RH C φ H h)(rx:RV C φ H p x)(ry:RV C φ H q y)(e:fK p q h=some o)(r:R φ o):Cd C x y H R:=by
 unfold fK at e;cases q with
 |ref n=>
  obtain⟨a,rfl,ha⟩:=ry;dsimp only at e;split at e
  ·rename_i hk;cases e1:bI h n with
   |none=>rw[e1]at e;cases e
   |some kvs=>rw[e1]at e;cases e;exact⟨φ,h,p,n,a,kvs,rh,rx,rfl,ha,e1,hk,r⟩
  ·cases e
 |_=>cases e
theorem HE{k:Nat}(c:Cxt C k X):OpR X (Qn .In) (λx y H Q=>Cd C x y H λ_ o=>Q (.bl o.isSome) H):=λpins s σ H x y v u Q I rx ry h=>by
 obtain⟨φ,h,p,n,a,kvs,rh,rp,rfl,ha,ht,hk,q⟩:=h;cases ry
 obtain⟨b,rfl⟩:=lH hk rp;cases rx
 obtain⟨⟨ks,xs,r,c9,hz,hm,dd⟩,_⟩:=rK I c.K c.w rh ha ht;refine wpAny_in_heap c.room6 (tW I c.K hk rp) hm dd ?_;rw[HD.isSome r c9 p];exact⟨.bl _,H,I.tok _,rfl,q⟩
theorem Bn{k:Nat}(c:Cxt C k X):OpR X (Qn .NotIn) (λx y H Q=>Cd C x y H λ_ o=>Q (.bl (!o.isSome)) H):=λpins s σ H x y v u Q I rx ry h=>by
 obtain⟨φ,h,p,n,a,kvs,rh,rp,rfl,ha,ht,hk,q⟩:=h;cases ry
 obtain⟨b,rfl⟩:=lH hk rp;cases rx
 obtain⟨⟨ks,xs,r,c9,hz,hm,dd⟩,_⟩:=rK I c.K c.w rh ha ht;refine wpAny_notIn_heap c.room6 (tW I c.K hk rp) hm dd ?_;rw[HD.isSome r c9 p];exact⟨.bl _,H,I.tok _,rfl,q⟩
def kI:PV->PV->PH->Rs PV:=λx y h=>match fK x y h with
 |some o=>.ok (.bl o.isSome) h
 |none=>vIn x y h
def cY:PV->PV->PH->Rs PV:=λx y h=>match fK x y h with
 |some o=>.ok (.bl (!o.isSome)) h
 |none=>pV x y h
theorem MR{k:Nat}:OpS C k X (Qn .In) kI:=λc=>((O8 c).or (HE c)).imp λx y H Q h=>by
 obtain⟨φ,h,p,q,rh,rx,ry,po⟩:=h;unfold kI at po;cases e:fK p q h with
 |none=>rw[e]at po;exact .inl ⟨φ,h,p,q,rh,rx,ry,po⟩
 |some o=>rw[e]at po;exact .inr (mJ rh rx ry e (po.val rh rfl))
theorem F2{k:Nat}:OpS C k X (Qn .NotIn) cY:=λc=>((Hm c).or (Bn c)).imp λx y H Q h=>by
 obtain⟨φ,h,p,q,rh,rx,ry,po⟩:=h;unfold cY at po;cases e:fK p q h with
 |none=>rw[e]at po;exact .inl ⟨φ,h,p,q,rh,rx,ry,po⟩
 |some o=>rw[e]at po;exact .inr (mJ rh rx ry e (po.val rh rfl))
theorem Os{k:Nat}(c:Cxt C k X):IxR X (λx y H Q=>Cd C y x H λφ o=>∃p,o=some p/\∀v:V,RV C φ H p v->Q v H):=by
 intro value slice pins s σ H x y v u Q I rx ry h hs;obtain⟨φ,h,p,n,a,kvs,rh,rp,rfl,ha,ht,hk,p',ep,q⟩:=h;cases rx
 obtain⟨b,rfl⟩:=lH hk rp;cases ry
 obtain⟨⟨ks,xs,r,c9,hz,hm,dd⟩,_⟩:=rK I c.K c.w rh ha ht;have hT:=dd.typeIs;have hv:=HD.val (a:=a) r c9 p;rw[ep]at hv;cases e2:atKey xs p with
 |none=>rw[e2]at hv;exact hv.elim
 |some z=>
  rw[e2]at hv;obtain⟨v',ab,b8⟩:=hv;unfold subscriptTail;refine Pi ?_;rw[getitemInPython_of_ne hT.not_modules];refine Pi (R6 hT PySem.F.slot_dict_getitem.lookup ?_);have fin:wpAny (model X.prog X.w) X.A (subscripted slice false (.ref a) (.ref b)) (λr s₃=>wpAny (model X.prog X.w) X.A (letTemporaryGo value (.ref a) r >>= λ_=>pure r) (EP X pins σ Q) X.xe s₃) X.xe s:=by
   rw[hs];exact wpAny_operating (wpAny_getItem_heap c.room6 (tW I c.K hk rp) dd e2 (Pi (wpAny_letTemporaryGo (Px ⟨v',H,I.tok _,ab,q v' b8⟩))))
  first
   |exact Px (Pi fin)
   |exact Pi (Px (Pi fin))
   |exact Pi fin
def vAt:PV->PV->PH->Rs PV:=λx y h=>match fK y x h with
 |some (some p)=>.ok p h
 |some none=>.bad
 |none=>vIx x y h
theorem Ot{k:Nat}{a b:Expr}(ha:SE C k X a ma)(hb:SE C k X b mb)(hs:BW b:=by intro _ _;rfl):SE C k X (.Subscript a b pos) (aB vAt ma mb):=λc=>
 (Lq ((ixC c.hu C.K c.K).or (Os c)) (ha c) (hb c) hs).imp λσ H Q h=>by
  obtain⟨φ,δ,h,rh,re,p⟩:=C1 h;refine⟨φ,δ,h,rh,re,p.imp ?_⟩;rintro v H1 ⟨φ,δ,h,rh,re,p⟩;refine⟨φ,δ,h,rh,re,p.imp ?_⟩;rintro u H2 ⟨φ,h,p,q,rh,rx,ry,po⟩;unfold vAt at po;cases e:fK q p h with
  |none=>rw[e]at po;exact .inl (M8 ⟨φ,h,p,q,rh,rx,ry,po⟩)
  |some o=>
   rw[e]at po;cases o with
   |none=>exact po.elim
   |some r=>exact .inr (mJ rh ry rx e ⟨r,rfl,λv' rv=>po.val rh rv⟩)
def tX(x y v:PV)(h:PH):Option PH:=match x with
 |.ref n=>match oK y,h[n]? with
  |some key,some (.dK kvs)=>if kvs.length<PP then some (h.set n (.dK (fB kvs key v))) else none
  |some _,_=>none
  |none,_=>if y.isKt=true then(match bI h n with
   |some kvs=>if kvs.length<PP then some (h.set n (.dD (fB kvs y v))) else none
   |none=>none) else none
 |_=>none
theorem Bo{κ:Type}[DecidableEq κ]{kvs:List (κ×PV)}{ks:List (κ×V)}(r:RKv C φ H kvs ks)(a:κ):(aM kvs a).isSome=(iD ks a).isSome:=by
 have:=pW r a;cases e1:aM kvs a with
 |none=>
  cases e2:iD ks a with
  |none=>rfl
  |some v=>rw[e1,e2]at this;exact this.elim
 |some p=>
  cases e2:iD ks a with
  |none=>rw[e1,e2]at this;exact this.elim
  |some v=>rfl
set_option tactic.hygienic true in
theorem Aq{κ:Type}[DecidableEq κ]{kvs:List (κ×PV)}{ks:List (κ×V)}(r:RKv C φ H kvs ks)(a:κ)(rp:RV C φ H p v):RKv C φ H (fB kvs a p) (putK ks a v):=by
 unfold fB putK;rw[sO,Bo r a];split
 ·rename_i hx;clear hx;unfold RKv at r⊢
  induction r with
  |nil=>exact .nil
  | @cons p' q' ps qs h t ih=>
   refine .cons ?_ ih
   by_cases e:p'.1=a
   ·have e':q'.1=a:=h.1.symm.trans e;simp only[if_pos e,if_pos e'];exact⟨h.1,rp⟩
   ·have e':¬ q'.1=a:=λz=>e (h.1.trans z);simp only[if_neg e,if_neg e'];exact h
 ·exact Paired.snoc r ⟨rfl,rp⟩
variable{px py:PV}{xu yu:Value}
set_option tactic.hygienic true in
theorem wU{k:Nat}{h':PH}{pv:PV}{x:V}(c:Cxt C k X)(rh:RH C φ H h)(rx:RV C φ H px x)(ry:RV C φ H py y)(rv:RV C φ H pv v)(e:tX px py pv h=some h'){Q:Unit->Shared->Prop}(I:Inv X pins σ H s)(k6:RelV x xu)(cm:RelV y yu)(jw:RelV v vu)(q:∀s' H',Inv X pins σ H' s'->Kp H H'->RH C φ H' h'->Q () s'):wpAny (model X.prog X.w) X.A (setItem xu yu vu) Q X.xe s:=by
 unfold tX at e;cases px with
 |ref n=>
  obtain⟨a,rfl,ha⟩:=rx;cases k6
  dsimp only at e;split at e
  ·rename_i key kvs ai hk;split at e
   ·rename_i hl;cases e
    obtain⟨ks,hH,rk⟩:=rh.at' n a _ ha hk;have ey:y=kV key:=yL ry ai;subst ey;have gf:ks.length<PP:=by rw[<-Qz rk];exact hl
    refine CW c.hu I (.k hH gf) cm jw λs' I'=>q s' _ I' (Kp.dK hH) ?_;refine rh.write ha (by rw[hH];exact Re) ⟨_,aJ,?_⟩;exact(Aq rk key rv).mono PF (Kp.dK hH)
   ·cases e
  ·cases e
  ·split at e
   ·rename_i hk;split at e
    ·rename_i kvs ht;split at e
     ·rename_i hl;cases e
      obtain⟨b,rfl⟩:=lH hk ry;cases cm
      obtain⟨⟨ks,xs,r,c9,hz,hm,dd⟩,mu,nt⟩:=rK I c.K c.w rh ha ht;refine wpAny_setItem_heap (hsz:=hz) c.room6 (tW I c.K hk ry) dd λh' gi hs=>?_;obtain⟨cp,r1,r2⟩:=HD.put (a:=a) r c9 (sE hk) ry rv jw;obtain⟨o,es,ep,hq,h2,h3,h4,_,h5⟩:=gi;have ix:cp.length<=PP:=by
       have e1:=Qz r1;have e2:(fB kvs py pv).length<=kvs.length+1:=by
        unfold fB;split
        ·rw[PC];omega
        ·simp
       omega
      refine q _ (upd H a (dDO C.w a cp)) (nV I mu hs ⟨o,hq⟩ ⟨⟨ix,hm,_,r2,o,es,ep,hq,h2,h3,?_,h5⟩,⟨o,hq⟩,?_⟩) (Kp.upd nt) ?_
      ·rw[h4,<-c.w];rfl
      ·rintro g1 g2 ⟨z1,z2,ws,z3,o',gj,gg,z4,z5⟩ keep;exact⟨z1,z2,ws,z3,o',gj,gg,keep _ z4,z5⟩
      ·exact rh.write ha nt ⟨cp,aJ,RKd.mono PF (Kp.upd nt) r1⟩
     ·cases e
    ·cases e
   ·cases e
 |_=>cases e
open PySem PySem.Spec PyProof.Rows
def MtG(C:MC)(k:Nat)(X:Cx)(T:String)(ty:PV->PH->Bool)(id:String)(g:PV->List PV->PH->Rs PV):Prop:=Cxt C k X->MtR X id (rM C g)/\
 ∀pins s σ H φ h p x v,Inv X pins σ H s->RH C φ H h->RV C φ H p x->RelV x v->ty p h=true->s.TypeIs v T/\∀a,v=.ref a->∃ob,s.heap.get? a=some ob/\ob.dict=none
theorem MS{k:Nat}{o:Expr}{id:String}{g:PV->List PV->PH->Rs PV}(pa:PlainAttrs T)(slot:Slot T name id)(kj:typeOf (.builtin id)=pure (.type "method_descriptor"))(hm:MtG C k X T ty id g)(ho:SE C k X o mo)(ha:SA C k X (e::es) ms)(bo:Sh o name X.env (eval o X.env)=eval o X.env:=by rfl)(dj:((backTo ae (P3 (e::es) X.env)).all (λx=>!x.1)&&(backToKw ae (keywordEach [] X.env)).all (λx=>x.1.isSome)
   && decide ((e::es).length+([]:List Keyword).length+(if([]:List Keyword).isEmpty then 0 else 1)<30))=true:=by rfl)(bh:(apos.endLine == ae.line)=true:=by rfl)(hs:P3 (e::es) X.env=(false,eval e X.env)::P3 es X.env:=by rfl)(b7:(backTo ae (P3 es X.env)).any (·.1)=false:=by rfl):
  SE C k X (.Call (.Attribute o name apos) (e::es) [] ae) (mMt ty g mo ms):=λc pins s σ H Q I ⟨φ,δ,h,rh,re,p⟩=>by
 refine wpAny_Call_method_late bo dj bh rfl (thn (ho c pins s σ H _ I ⟨φ,δ,h,rh,re,post.bind p⟩) ?_);rintro v s1 ⟨x,H1,I1,r1,φ1,px,h1,p1,t1,aa,ab,q1⟩;obtain⟨ht,q1⟩:=q1.ite;obtain⟨g1,g2⟩:=(hm c).2 pins s1 σ H1 φ1 h1 px x v I1 aa ab r1 ht;refine⟨T,id,pa,slot,kj,g1,g2,?_⟩;have hA:=ha c ae pins s1 σ H1 _ I1 ⟨φ1,δ,h1,aa,re.mono p1 t1,postA.bind q1⟩;rw[hs]at hA⊢;refine Sq (show(false || (backTo ae (P3 es X.env)).any (·.1))=false by rw[b7];rfl) (Calls.evalArgs_plain (thn hA ?_));rintro us s2 ⟨vs,H2,I2,r2,φ2,ps,h2,p2,t2,ah,b8,q2⟩;exact(hm c).1 pins s2 σ H2 x vs v us Q I2 r1 r2 ⟨φ2,h2,px,ps,ah,ab.mono p2 t2,b8,q2⟩
theorem IW{k:Nat}{o:Expr}{id:String}{g:PV->List PV->PH->Rs PV}(pa:PlainAttrs T)(slot:Slot T name id)(kj:typeOf (.builtin id)=pure (.type "method_descriptor"))(hm:MtG C k X T ty id g)(ho:SE C k X o mo)(bo:Sh o name X.env (eval o X.env)=eval o X.env:=by rfl)(bh:(apos.endLine == ae.line)=true:=by rfl):SE C k X (.Call (.Attribute o name apos) [] [] ae) (An ty g mo):=λc pins s σ H Q I ⟨φ,δ,h,rh,re,p⟩=>by
 refine wpAny_Call_method0_late bo bh (thn (ho c pins s σ H _ I ⟨φ,δ,h,rh,re,post.bind p⟩) ?_);rintro v s1 ⟨x,H1,I1,r1,φ1,px,h1,p1,t1,aa,ab,q1⟩;obtain⟨ht,q1⟩:=q1.ite;obtain⟨g1,g2⟩:=(hm c).2 pins s1 σ H1 φ1 h1 px x v I1 aa ab r1 ht;exact⟨T,id,pa,slot,kj,g1,g2,Sq rfl (PySem.evalArgs_none ((hm c).1 pins s1 σ H1 x [] v [] Q I1 r1 .nil ⟨φ1,h1,px,[],aa,ab,trivial,q1⟩))⟩
def bO(x:PV)(h:PH):Bool:=match x with
 |.ref n=>match h[n]? with
  |some (.dK _)=>true
  |some (.dD _)=>true
  |_=>false
 |_=>false
set_option tactic.hygienic true in
theorem oS{k:Nat}(c:Cxt C k X):∀pins s σ H φ h p x v,Inv X pins σ H s->RH C φ H h->RV C φ H p x->RelV x v->bO p h=true->s.TypeIs v "dict" /\ ∀a,v=.ref a->∃ob,s.heap.get? a=some ob/\ob.dict=none:=by
 intro pins s σ H φ h p x v I rh rv r e;unfold bO at e;cases p with
 |ref n=>
  obtain⟨a,rfl,ha⟩:=rv;cases r
  dsimp only at e;split at e
  ·rename_i kvs hk;obtain⟨ks,hH,rk⟩:=rh.at' n a _ ha hk;obtain⟨z,hd,vs,rel,dd⟩:=vU I.hok hH;refine⟨dd.typeIs,λb eb=>?_⟩;cases eb
   obtain⟨ob,_,_,h1,h2,_⟩:=dd;exact⟨ob,h1,h2.2.1⟩
  ·rename_i kvs hk;have ht:bI h n=some kvs:=by unfold bI;rw[hk]
   obtain⟨⟨ks,xs,r,c9,hz,hm,dd⟩,_⟩:=rK I c.K c.w rh ha ht;refine⟨dd.typeIs,λb eb=>?_⟩;cases eb
   obtain⟨ob,_,_,h1,h2,_⟩:=dd;exact⟨ob,h1,h2.2.1⟩
  ·cases e
 |_=>cases e
def dG(h:PH)(x y:PV):Option (Option PV):=match fK y x h with
 |some o=>some o
 |none=>match x with
  |.ref n=>yK h n y
  |_=>none
def kJ:PV->List PV->PH->Rs PV:=λx ps h=>match ps with
 |[y]=>match dG h x y with
  |some o=>.ok (o.getD .non) h
  |none=>.bad
 |[y,z]=>match dG h x y with
  |some o=>.ok (o.getD z) h
  |none=>.bad
 |_=>.bad
set_option tactic.hygienic true in
theorem F3{x y:PV}{o:Option PV}(e:fK x y h=some o):∃n kvs,y=.ref n/\x.isKt=true/\bI h n=some kvs/\o=aM kvs x:=by
 unfold fK at e;cases y with
 |ref n=>
  dsimp only at e;split at e
  ·rename_i hk;cases e1:bI h n with
   |none=>rw[e1]at e;cases e
   |some kvs=>rw[e1]at e;cases e;exact⟨n,kvs,rfl,hk,e1,rfl⟩
  ·cases e
 |_=>cases e
set_option tactic.hygienic true in
theorem Ks{k:Nat}(c:Cxt C k X):MtR X "dict.get" (rM C kJ):=λpins s σ H x xs v us Q I rx rs h=>by
 obtain⟨φ,h,p,ps,rh,rp,jq,po⟩:=h
 -- what is found
 have key:∀{y:PV}{yv:V}{yu:Value}{o:Option PV}{d:PV}{dv:V}{du:Value}{more:List Value},dG h p y=some o->RV C φ H y yv->RelV yv yu->RV C φ H d dv->RelV dv du->
   ((more=[]/\du=.none/\dv=.non)\/more=[du])->(∀z,RV C φ H (o.getD d) z->Q z H)->wpAny (model X.prog X.w) X.A (call (.builtin "dict.get") (v::yu::more)) (EP X pins σ Q) X.xe s:=by
  intro y yv yu o d dv du more e ry cm rd rdu hm q;unfold dG at e;cases e1:fK y p h with
  |some o'=>
   rw[e1]at e;cases e
   obtain⟨n,kvs,rfl,hk,ht,rfl⟩:=F3 e1;obtain⟨a,rfl,ha⟩:=rp;cases rx
   obtain⟨b,rfl⟩:=lH hk ry;cases cm
   obtain⟨⟨ks,xs,r,c9,hz,pd,dd⟩,_⟩:=rK I c.K c.w rh ha ht;have hv:=HD.val (a:=a) r c9 y;have fin:EP X pins σ Q (((atKey xs y).map (·.2)).getD du) { s with toks:=s.toks+(rH X.prog X.w).draws y }:=by
    cases e2:aM kvs y with
    |some p2=>
     rw[e2]at hv q;cases e3:atKey xs y with
     |none=>rw[e3]at hv;exact hv.elim
     |some z=>
      rw[e3]at hv;obtain⟨v',ab,b8⟩:=hv;exact⟨v',H,I.tok _,ab,q v' b8⟩
    |none=>
     rw[e2]at hv q;cases e3:atKey xs y with
     |some z=>rw[e3]at hv;exact hv.elim
     |none=>exact⟨dv,H,I.tok _,rdu,q dv rd⟩
   rcases hm with⟨rfl,rfl,_⟩|rfl
   ·exact RM QF dd.typeIs Q4 (Sk _ _) (meetsH_dict_get (rH X.prog X.w) a b pd) ⟨c.room6,y,xs,tW I c.K hk ry,dd,fin⟩
   ·exact RM QF dd.typeIs Q4 (PySem.F.args_dict_get_3 _ _ _) (meetsH_dict_get_default (rH X.prog X.w) a b pd du) ⟨c.room6,y,xs,tW I c.K hk ry,dd,fin⟩
  |none=>
   rw[e1]at e;cases p with
   |ref n=>
    obtain⟨a,rfl,ha⟩:=rp;cases rx
    dsimp only at e;obtain⟨o',g,is,val⟩:=mH rh ha ry e;have fin:∀w' s',Inv X pins σ H s'->RelV (o'.getD dv) w'->EP X pins σ Q w' s':=λw' s' I' r'=>by
     refine⟨o'.getD dv,H,I',r',q _ ?_⟩;cases o with
     |some p2=>obtain⟨w2,rfl,zr⟩:=val p2 rfl;exact zr
     |none=>
      cases o' with
      |none=>exact rd
      |some z=>cases is
    rcases hm with⟨rfl,rfl,rfl⟩|rfl
    ·exact JF c.hu I g cm fin
    ·exact JG c.hu I g cm rdu fin
   |_=>cases e
 unfold kJ at po;split at po
 ·rename_i y;split at po
  ·rename_i o e;obtain⟨yv,rfl,ry⟩:=jq.one;obtain⟨yu,rfl,cm⟩:=vals1 rs;exact key (d:=.non) (dv:=.non) (du:=.none) e ry cm rfl rfl (.inl ⟨rfl,rfl,rfl⟩) λz rz=>po.val rh rz
  ·exact po.elim
 ·rename_i y z;split at po
  ·rename_i o e;obtain⟨yv,zv,rfl,ry,rz⟩:=jq.two;obtain⟨yu,zu,rfl,cm,lj⟩:=vals2 rs;exact key e ry cm rz lj (.inr rfl) λz rz=>po.val rh rz
  ·exact po.elim
 ·exact po.elim
theorem MT{k:Nat}:MtG C k X "dict" bO "dict.get" kJ:=λc=>⟨Ks c,oS c⟩
def Dv(x:List Key):List (List Key)->List (List Key)
 |[]=>[x]
 |y::ys=>if aZ y x=true then y::Dv x ys else x::y::ys
def iX:List (List Key)->List (List Key)
 |[]=>[]
 |x::xs=>Dv x (iX xs)
theorem qA(x:List Key):∀ys,(Dv x ys).Perm (x::ys)
 |[]=>.refl _
 |y::ys=>by
  unfold Dv;split
  ·exact((qA x ys).cons y).trans (.swap x y ys)
  ·exact .refl _
theorem fC:∀xs,(iX xs).Perm xs
 |[]=>.refl _
 |x::xs=>(qA x _).trans ((fC xs).cons x)
set_option tactic.hygienic true in
theorem rN{S:List Bool}{x:List Key}(hx:shape x=S):∀{ys:List (List Key)},(∀y∈ys,shape y=S)->ys.Pairwise (λa b=>aZ b a=false)->(Dv x ys).Pairwise (λa b=>aZ b a=false)
 |[],_,_=>List.pairwise_singleton _ _
 |y::ys,hs,hp=>by
  have hy:=hs y PN;have fv:=λz hz=>hs z (PK _ hz);rw[QV]at hp;unfold Dv;split
  ·rename_i h;rw[QV];refine⟨λz hz=>?_,rN hx fv hp.2⟩;rcases P5.mp ((qA x ys).mem_iff.mp hz) with rfl|hz
   ·exact oB h
   ·exact hp.1 z hz
  ·rename_i h;have h':aZ y x=false:=by simpa using h
   rw[QV];refine⟨λz hz=>?_,QV.mpr hp⟩;rcases P5.mp hz with rfl|hz
   ·exact h'
   ·exact lG (hx.trans hy.symm) (hy.trans (fv z hz).symm) h' (hp.1 z hz)
theorem lT{S:List Bool}:∀{xs:List (List Key)},(∀y∈xs,shape y=S)->(iX xs).Pairwise (λa b=>aZ b a=false)
 |[],_=>.nil
 |x::xs,hs=>rN (hs x PN) (λy hy=>hs y (PK _ ((fC xs).mem_iff.mp hy))) (lT λy hy=>hs y (PK _ hy))
variable{S:List Bool}
theorem mK{xs ys:List (List Key)}(hs:∀y∈xs,shape y=S)(hp:ys.Perm xs)(h:ys.Pairwise (λa b=>aZ b a=false)):ys=iX xs:=by
 refine S7 (le:=λa b=>aZ b a=false) (λa b ha hb h1 h2=>?_) h (lT hs) (hp.trans (fC xs).symm);exact oC ((hs a (hp.mem_iff.mp ha)).trans (hs b ((fC xs).mem_iff.mp hb)).symm) h2 h1
def kP:Key->PV
 |.inl i=>.int i
 |.inr x=>.str x
theorem HF{x:PV}{a:Key}(h:oK x=some a):x=kP a:=by
 cases x <;> first|(cases h;rfl)|cases h
@[simp]theorem Ce(a:Key):oK (kP a)=some a:=by cases a <;> rfl
def gM:List PV->Option (List Key)
 |[]=>some []
 |x::xs=>match oK x,gM xs with
  |some a,some r=>some (a::r)
  |_,_=>none
theorem oT:∀{xs:List PV}{ks:List Key},gM xs=some ks->xs=ks.map kP
 |[],_,h=>by cases h;rfl
 |x::xs,ks,h=>by
  unfold gM at h;cases e1:oK x with
  |none=>rw[e1]at h;cases h
  |some a=>
   cases e2:gM xs with
   |none=>rw[e1,e2]at h;cases h
   |some r=>
    rw[e1,e2]at h;cases h
    rw[HF e1,oT e2];rfl
@[simp]theorem F4:∀ks:List Key,gM (ks.map kP)=some ks
 |[]=>rfl
 |a::ks=>by simp[gM,F4 ks]
def tP(ks:List Key):PV:=.tup (ks.map kP)
def gO:List PV->Option (List (List Key))
 |[]=>some []
 |.tup xs::r=>match gM xs,gO r with
  |some a,some b=>some (a::b)
  |_,_=>none
 |_::_=>none
theorem tY:∀{xs:List PV}{ks:List (List Key)},gO xs=some ks->xs=ks.map tP
 |[],_,h=>by cases h;rfl
 |x::xs,ks,h=>by
  cases x with
  |tup ys=>
   unfold gO at h;cases e1:gM ys with
   |none=>rw[e1]at h;cases h
   |some a=>
    cases e2:gO xs with
    |none=>rw[e1,e2]at h;cases h
    |some r=>
     rw[e1,e2]at h;cases h
     rw[oT e1,tY e2];rfl
  |_=>cases h
@[simp]theorem Ar:∀ks:List (List Key),gO (ks.map tP)=some ks
 |[]=>rfl
 |a::ks=>by simp[gO,tP,Ar ks]
def oU(kss:List (List Key)):Bool:=match kss with
 |[]=>true
 |a::r=>(!a.isEmpty)&&r.all λx=>shape x == shape a
theorem mL(h:oU kss=true):∃b sh,∀ks∈kss,shape ks=b::sh:=by
 cases kss with
 |nil=>exact⟨true,[],λ_ h=>nomatch h⟩
 |cons a r=>
  unfold oU at h;rw[PZ]at h;cases a with
  |nil=>cases h.1
  |cons z zs=>
   refine⟨cP z,shape zs,λks hk=>?_⟩;rcases P5.mp hk with rfl|hk
   ·rfl
   ·have:=Qf.mp h.2 ks hk;exact eq_of_beq this
section
variable{k:Nat}
theorem MU{a:Key}:RV C φ H (kP a) v↔Rep C.K H (kD a) v:=by cases a <;> exact Iff.rfl
theorem yT{φ:List Addr}{H:Hp}:∀{ks:List Key}{vs:List V},RVs C φ H (ks.map kP) vs↔cF C.K H (ks.map kD) vs
 |[],[]=>Iff.rfl
 |[],_::_=>Iff.rfl
 |_::_,[]=>Iff.rfl
 |_::_,_::_=>and_congr MU yT
theorem MV{ks:List Key}:RV C φ H (tP ks) v↔Rep C.K H (tD ks) v:=by
 constructor
 ·rintro⟨a,vs,e,s,r⟩;exact⟨a,vs,e,s,yT.mp r⟩
 ·rintro⟨a,vs,e,s,r⟩;exact⟨a,vs,e,s,yT.mpr r⟩
theorem oV{φ:List Addr}{H:Hp}:∀{kss:List (List Key)}{vs:List V},RVs C φ H (kss.map tP) vs↔cF C.K H (kss.map tD) vs
 |[],[]=>Iff.rfl
 |[],_::_=>Iff.rfl
 |_::_,[]=>Iff.rfl
 |_::_,_::_=>and_congr MV oV
def Cf(xs:List PV):Option (List PV):=match gO xs with
 |some kss=>if kss.length<64/\oU kss=true then some ((iX kss).map tP) else none
 |none=>match gM xs with
  |some ks=>if ks.length<64/\ks.all (λx=>cP x == cP (.inr ""))=true then some ((iX (ks.map λx=>[x])).flatten.map kP) else none
  |none=>none
theorem RH.same(r:RH C φ H h)(s:A7 H H1):RH C φ H1 h:=⟨r.len,r.nd,λn b ob h1 h2=>by
 have q:=r.at' n b ob h1 h2;obtain⟨u,hu⟩:=q.some;exact q.stay PF (Kp.same s) ((s _ _ hu).trans hu.symm)⟩
set_option tactic.hygienic true in
theorem HG{a b:Str}:aZ [.inr a] [.inr b]=decide (a.cps.toList<b.cps.toList):=by
 unfold aZ;split
 ·rename_i e;cases e
  simp[aZ,List.lt_irrefl]
 ·rfl
theorem rO:∀{r:List Str}{p:Str},risingS p r=true->((p::r).map λx=>[(Rg x:Key)]).Pairwise (λa b=>aZ b a=false)
 |[],p,_=>List.pairwise_singleton _ _
 |x::r,p,h=>by
  have h0:aZ [.inr x] [.inr p]=false/\risingS x r=true:=by
   unfold risingS at h;rw[PZ,ltCps_eq]at h;rw[HG];exact⟨by simpa using h.1,h.2⟩
  have ih:=rO h0.2;rw[P0,QV];refine⟨λz hz=>?_,ih⟩;obtain⟨y,hy,rfl⟩:=Qc.mp hz;rcases P5.mp hy with rfl|hy
  ·exact h0.1
  ·rw[P0,QV]at ih;exact lG (a:=[.inr p]) (b:=[.inr x]) (c:=[.inr y]) rfl rfl h0.1 (ih.1 _ (Qc.mpr ⟨y,hy,rfl⟩))
theorem HH{ks:List Key}(h:ks.all (λx=>cP x == cP (.inr ""))=true):∃ss:List Str,ks=ss.map Rg:=by
 induction ks with
 |nil=>exact⟨[],rfl⟩
 |cons a ks ih=>
  rw[Sj,PZ]at h;obtain⟨ss,e⟩:=ih h.2;cases a with
  |inl i=>exact absurd h.1 (by simp[cP])
  |inr x=>exact⟨x::ss,by rw[e];rfl⟩
theorem yU{φ:List Addr}{H:Hp}:∀{ss:List Str}{vs:List V},RVs C φ H (ss.map PV.str) vs↔vs=ss.map V.str
 |[],[]=>by simp[RVs]
 |[],_::_=>by simp[RVs]
 |_::_,[]=>by simp[RVs]
 |x::ss,v::vs=>by
  simp only[P0,RVs,List.cons.injEq];exact and_congr Iff.rfl yU
theorem wV:∀ss:List Str,(((ss.map λx=>[(Rg x:Key)]).flatten).map kP)=ss.map PV.str
 |[]=>rfl
 |x::ss=>by
  have:=wV ss;simp only[P0,List.flatten_cons,List.singleton_append];rw[this];rfl
theorem Dw{kvs:List (Key×PV)}{ks:List (Key×V)}(r:RKv C φ H kvs ks):∀{kss:List (List Key)},gO (kvs.map λkv=>PV.tup [kP kv.1,kv.2])=some kss->ks.map (λkv=>[kV kv.1,kv.2])=kss.map (λks=>ks.map kV):=by
 unfold RKv at r
 induction r with
 |nil=>intro kss h;cases h;rfl
 | @cons p q ps qs h t ih=>
  intro kss e;rw[P0]at e;unfold gO at e;cases e1:gM [kP p.1,p.2] with
  |none=>rw[e1]at e;cases e
  |some a=>
   cases e2:gO (ps.map λkv=>PV.tup [kP kv.1,kv.2]) with
   |none=>rw[e1,e2]at e;cases e
   |some b=>
    rw[e1,e2]at e;cases e
    rw[P0,P0,ih e2]
    congr 1
    unfold gM at e1;rw[Ce]at e1;cases e3:gM [p.2] with
    |none=>rw[e3]at e1;cases e1
    |some c=>
     rw[e3]at e1;cases e1
     have:=oT e3
     match c,this with
     |[d],this=>
      have e4:p.2=kP d:=by simpa using this
      have rv:=h.2;rw[e4]at rv;have e5:q.2=kV d:=yL rv (Ce d);rw[h.1,e5];rfl
     |[],this=>exact absurd this (by simp)
     |_::_::_,this=>exact absurd this (by simp)
def IX(h:PH)(n:Nat):Option (List PV):=match h[n]? with
 |some (.vw 0 d)=>match h[d]? with
  |some (.dK kvs)=>some (kvs.map λkv=>.tup [kP kv.1,kv.2])
  |_=>none
 |_=>none
def iY:List PV->PH->Rs PV:=λxs h=>match xs with
 |[.ref n]=>match aO h n with
  |some ys=>match Cf ys with
   |some zs=>.ok (.ref h.length) (h++[.lst zs])
   |none=>.bad
  |none=>match IX h n with
   |some ys=>match gO ys with
    |some kss=>if kss.length<64/\oU kss=true then .ok (.ref h.length) (h++[.lst ((iX kss).map tP)]) else .bad
    |none=>.bad
   |none=>.bad
 |_=>.bad
set_option tactic.hygienic true in
theorem F5:oI C k X (.builtin "sorted") iY:=λc=>bS.imp (bS.or (yF c.calm C.K c.K) (by have:=pP (X:=X);rw[c.K]at this;exact this)) λvs H Q h=>by
 obtain⟨φ,h,ps,rh,rv,po⟩:=h;unfold iY at po;split at po
 ·rename_i n;obtain⟨v,rfl,rx⟩:=rv.one;obtain⟨a,rfl,ha⟩:=rx;split at po
  ·rename_i ys e;obtain⟨a2,vs,au,sa,ra⟩:=cA rh e;rw[ha]at au;cases au;split at po
   ·rename_i zs ez;unfold Cf at ez;split at ez
    ·rename_i kss ek;split at ez
     ·rename_i hc;cases ez
      have ey:=tY ek;subst ey;obtain⟨b,sh,hsh⟩:=mL hc.2;refine .inl ⟨a,kss,sh,b,rfl,hc.1,hsh,.inl ⟨vs,sa,oV.mp ra,λl gq fb hl hp hs hr=>?_⟩⟩;rw[mK hsh hp hs]at hr;exact po.lnew rh (oV.mpr hr) hl
     ·cases ez
    ·split at ez
     ·rename_i ks ek;split at ez
      ·rename_i hc;cases ez
       obtain⟨ss,rfl⟩:=HH hc.2;have ey:=oT ek;rw[Qw]at ey;have yn:ys=ss.map PV.str:=ey;subst yn;have ev:=yU.mp ra;subst ev;refine .inr ⟨a,ss,rfl,sa,by simpa using hc.1,λl f9 hl hp hs=>?_⟩
       have e1:(f9.map λx=>[(Rg x:Key)])=iX ((ss.map Rg).map λx=>[x]):=by
        rw[Qw];refine mK (S:=[false]) (λy hy=>?_) (hp.map _) ?_
        ·obtain⟨z,_,rfl⟩:=Qc.mp hy;rfl
        ·cases f9 with
         |nil=>exact .nil
         |cons x r=>exact rO hs
       rw[<-e1]at po;refine po.lnew rh ?_ hl;have e2:(((f9.map λx=>[(Rg x:Key)]).flatten).map kP)=f9.map PV.str:=wV f9;rw[e2];exact yU.mpr rfl
      ·cases ez
     ·cases ez
   ·exact po.elim
  ·split at po
   ·rename_i ys ev;split at po
    ·rename_i kss ek;obtain⟨hc,po⟩:=po.ite;unfold IX at ev;split at ev
     ·rename_i d hv;split at ev
      ·rename_i kvs hk;cases ev
       obtain⟨b,hb,hH⟩:=rh.at' n a _ ha hv;obtain⟨ks,hD,rk⟩:=rh.at' d b _ hb hk;obtain⟨bb,sh,hsh⟩:=mL hc.2;refine .inl ⟨a,kss,sh,bb,rfl,hc.1,hsh,.inr ⟨b,ks,hH,hD,?_,λH1 s1 l gq fb hl hp hs hr=>?_⟩⟩
       ·exact Dw rk ek
       ·rw[mK hsh hp hs]at hr;exact(post.weak PF (Kp.same s1) po).lnew (rh.same s1) (oV.mpr hr) hl
      ·cases ev
     ·cases ev
    ·exact po.elim
   ·exact po.elim
 ·exact po.elim
end
open PySem
@[simp]theorem MW{x:PV}:fK x (.tup xs) h=none:=(rfl)
@[simp]theorem MX{i:Int}{y:PV}:fK (.int i) y h=none:=by cases y <;> rfl
@[simp]theorem MY{i:Str}{y:PV}:fK (.str i) y h=none:=by cases y <;> rfl
theorem F6{x:PV}(e:h[n]?=some (.lst xs)):fK x (.ref n) h=none:=by
 unfold fK bI;simp[e]
@[simp]theorem Nw{x:PV}{i:Int}:vAt x (.int i) h=vIx x (.int i) h:=by unfold vAt;simp
@[simp]theorem Nx{x:PV}{i:Str}:vAt x (.str i) h=vIx x (.str i) h:=by unfold vAt;simp
@[simp]theorem As{x:PV}:kI x (.tup ys) h=vIn x (.tup ys) h:=by unfold kI;simp
@[simp]theorem kK{x:PV}:cY x (.tup ys) h=pV x (.tup ys) h:=by unfold cY;simp
theorem Au{x:PV}(e:h[n]?=some (.lst xs)):kI x (.ref n) h=vIn x (.ref n) h:=by unfold kI;rw[F6 e]
theorem F7{kvs:List (Key×PV)}(e:h[n]?=some (.dK kvs)):bO (.ref n) h=true:=by unfold bO;simp[e]
variable{z:PV}
theorem HJ{kvs:List (Key×PV)}(e:h[n]?=some (.dK kvs)):kJ (.ref n) [.str x,z] h=.ok ((aM kvs (.inr x)).getD z) h:=by
 simp[kJ,dG,yK,e,oK]
theorem HK{kvs:List (Key×PV)}(e:h[n]?=some (.dK kvs))(c:kvs.length<16777216):tX (.ref n) (.str x) z h=some (h.set n (.dK (fB kvs (.inr x) z))):=by
 simp[tX,e,oK,c]
open PySem PySem.Spec PyProof.Rows
def eY:PV->List PV->PH->Rs PV:=λx ps h=>match x,ps with
 |.ref n,[y,z]=>match oK y with
  |some key=>match h[n]? with
   |some (.dK kvs)=>match aM kvs key with
    |some p=>.ok p h
    |none=>if kvs.length<PP then .ok z (h.set n (.dK (fB kvs key z))) else .bad
   |_=>.bad
  |none=>if y.isKt=true then(match bI h n with
   |some kvs=>match aM kvs y with
    |some p=>.ok p h
    |none=>if kvs.length<PP then .ok z (h.set n (.dD (fB kvs y z))) else .bad
   |none=>.bad) else .bad
 |_,_=>.bad
theorem F8{κ:Type}[DecidableEq κ](kvs:List (κ×PV))(a:κ)(p:PV):(fB kvs a p).length<=kvs.length+1:=by
 unfold fB;split
 ·rw[PC];omega
 ·simp
set_option tactic.hygienic true in
theorem vI{k:Nat}(c:Cxt C k X):MtR X "dict.setdefault" (rM C eY):=λpins s σ H x xs v us Q I rx rs h=>by
 obtain⟨φ,h,p,ps,rh,rp,jq,po⟩:=h;unfold eY at po;split at po
 ·rename_i n y z;obtain⟨a,rfl,ha⟩:=rp;cases rx
  obtain⟨yv,zv,rfl,ry,rz⟩:=jq.two;obtain⟨yu,zu,rfl,cm,lj⟩:=vals2 rs;split at po
  ·rename_i key ai;split at po
   ·rename_i kvs hk;obtain⟨ks,hH,rk⟩:=rh.at' n a _ ha hk;have ey:=yL ry ai;subst ey;obtain⟨hz,hd,vs,rel,dd⟩:=vU I.hok hH;have zx:vs.length<=PP:=by rw[<-rel.length];exact hz
    have lv:=pW rk key;have rv:=rel.val key;refine RM Su dd.typeIs PySem.F.entry_dict_setdefault (PySem.F.args_dict_setdefault_3 _ _ _) (iT (aQ X.prog X.w) a hd (nU cm) zu) ⟨vs,dd,zx,λv e=>?_,λe h' gi hs=>?_⟩
    ·rw[e]at rv;cases e1:iD ks key with
     |none=>rw[e1]at rv;exact rv.elim
     |some v1=>
      rw[e1]at rv lv;cases e2:aM kvs key with
      |none=>rw[e2]at lv;exact lv.elim
      |some p1=>
       rw[e2]at lv po;exact⟨v1,H,I.tok _,rv,po.val rh lv⟩
    ·rw[e]at rv;cases e1:iD ks key with
     |some v1=>rw[e1]at rv;exact rv.elim
     |none=>
      rw[e1]at lv;cases e2:aM kvs key with
      |some p1=>rw[e2]at lv;exact lv.elim
      |none=>
       rw[e2]at po;obtain⟨hl,po⟩:=po.ite;have gf:(putK ks key zv).length<=PP:=by
        have:=jY ks key zv;have e3:=Qz rk;omega
       have he:∃q,h'.get? a=some q:=let ⟨q,_,_,hq,_⟩:=gi;⟨q,hq⟩;refine⟨zv,upd H a (.dK (putK ks key zv)),nV I (by rw[hH];exact Re) hs he (Ek gf hd (rel.put key lj) gi),lj,?_⟩;have kp:Kp H (upd H a (.dK (putK ks key zv))):=Kp.dK hH;exact po φ zv _ PF kp (rh.write ha (by rw[hH];exact Re) ⟨_,aJ,(Aq rk key rz).mono PF kp⟩) (rz.mono PF kp)
   ·exact po.elim
  ·obtain⟨hk,po⟩:=po.ite;split at po
   ·rename_i kvs ht;obtain⟨b,rfl⟩:=lH hk ry;cases cm
    obtain⟨⟨ks,xs,r,c9,hz,hm,dd⟩,mu,nt⟩:=rK I c.K c.w rh ha ht;have hv:=HD.val (a:=a) r c9 y;refine RM Su dd.typeIs PySem.F.entry_dict_setdefault (PySem.F.args_dict_setdefault_3 _ _ _) (jU (rH X.prog X.w) a b hm zu) ⟨c.room6,y,xs,tW I c.K hk ry,dd,hz,λp e=>?_,λe h' gi hs=>?_⟩
    ·rw[e]at hv;cases e2:aM kvs y with
     |none=>rw[e2]at hv;exact hv.elim
     |some p1=>
      rw[e2]at hv po;obtain⟨v',ab,b8⟩:=hv;exact⟨v',H,I.tok _,ab,po.val rh b8⟩
    ·rw[e]at hv;cases e2:aM kvs y with
     |some p1=>rw[e2]at hv;exact hv.elim
     |none=>
      rw[e2]at po;obtain⟨hl,po⟩:=po.ite;obtain⟨cp,r1,r2⟩:=HD.put (a:=a) r c9 (sE hk) ry rz lj;obtain⟨o,es,ep,hq,h2,h3,h4,_,h5⟩:=gi;have ix:cp.length<=PP:=by
       have e1:=Qz r1;have e3:=F8 kvs y z;omega
      refine⟨zv,upd H a (dDO C.w a cp),nV I mu hs ⟨o,hq⟩ ⟨⟨ix,hm,_,r2,o,es,ep,hq,h2,h3,?_,h5⟩,⟨o,hq⟩,?_⟩,lj,?_⟩
      ·rw[h4,<-c.w];rfl
      ·rintro g1 g2 ⟨z1,z2,ws,z3,o',gj,gg,z4,z5⟩ keep;exact⟨z1,z2,ws,z3,o',gj,gg,keep _ z4,z5⟩
      ·exact po φ zv _ PF (Kp.upd nt) (rh.write ha nt ⟨cp,aJ,RKd.mono PF (Kp.upd nt) r1⟩) (rz.mono PF (Kp.upd nt))
   ·exact po.elim
 ·exact po.elim
theorem yV{k:Nat}:MtG C k X "dict" bO "dict.setdefault" eY:=λc=>⟨vI c,oS c⟩
def iZ(h:PH)(d:Nat):Option (List PV):=match h[d]? with
 |some (.dK kvs)=>some (kvs.map (·.2))
 |some (.dD kvs)=>some (kvs.map (·.2))
 |_=>none
theorem tZ{K:Type}[DecidableEq K]{knd:KeyKind prog w K}{es:List RU}{kvs:List (K×Value)}(h:Pairs knd es kvs):es.map (·.val)=kvs.map (·.2):=by
 apply Ro;intro i;rw[PQ,PQ];have hl:=h.length
 by_cases hi:i<es.length
 ·have e1:es[i]?=some es[i]:=by simp[hi]
  have ay:i<kvs.length:=by omega
  have e2:kvs[i]?=some (kvs[i].1,kvs[i].2):=by simp[ay]
  rw[e1,e2];exact congrArg some (h.get? e1 e2).2
 ·rw[Rz (by omega),Rz (by omega)];rfl
set_option tactic.hygienic true in
theorem Av{k:Nat}{d:Nat}{b:Addr}(c:Cxt C k X)(I:Inv X pins σ H s)(rh:RH C φ H h)(hb:φ[d]?=some b)(e:iZ h d=some xs):
  s.TypeIs (.ref b) "dict" /\ (b == QG)=false/\xs.length<=PP/\∃oc es ep,s.heap.get? b=some oc/\oc.data=.dict es ep/\∃ws,RVs C φ H xs ws/\aI ws (es.toList.map (·.val)):=by
 unfold iZ at e;split at e
 ·rename_i kvs hk;cases e
  obtain⟨ks,hH,rk⟩:=rh.at' d b _ hb hk;obtain⟨z,hd,vs,rel,dd⟩:=vU I.hok hH;refine⟨dd.typeIs,hd,by rw[PC,Qz rk];exact z,?_⟩;obtain⟨oc,es,ep,g1,g2,g3,g4,g5,g6⟩:=dd;refine⟨oc,es,ep,g1,g3,ks.map (·.2),?_,?_⟩
  ·unfold RKv at rk;clear hk hH rel z
   induction rk with
   |nil=>trivial
   |cons q t ih=>exact⟨q.2,ih⟩
  ·rw[tZ g5];clear hk hH g4 g5 g6 z;unfold KV at rel;clear rk
   induction rel with
   |nil=>exact .nil
   |cons q t ih=>exact .cons q.2 ih
 ·rename_i kvs hk;cases e
  have ht:bI h d=some kvs:=by unfold bI;rw[hk]
  obtain⟨⟨ks,ys,r,c9,hz,hm,dd⟩,_⟩:=rK I c.K c.w rh hb ht;have hlen:kvs.length=ys.length:=(Qz r).trans (Qz c9);refine⟨dd.typeIs,hm,by rw[PC,hlen];exact hz,?_⟩;obtain⟨oc,es,ep,g1,g2,g3,g4,g5,g6⟩:=dd;refine⟨oc,es,ep,g1,g3,ks.map (·.2.2),?_,?_⟩
  ·unfold RKd at r;clear hk ht c9 hlen
   induction r with
   |nil=>trivial
   |cons q t ih=>exact⟨q.2.2.2,ih⟩
  ·rw[g4,Qw];clear hk ht r hlen hz g4 g5 g6
   induction c9 with
   |nil=>exact .nil
   |cons q t ih=>exact .cons q.2.2 ih
 ·cases e
def wW:PV->List PV->PH->Rs PV:=λx ps h=>match x,ps with
 |.ref n,[]=>match iZ h n with
  |some _=>.ok (.ref h.length) (h++[.vw 1 n])
  |none=>.bad
 |_,_=>.bad
set_option tactic.hygienic true in
theorem m_values{k:Nat}:MtG C k X "dict" bO "dict.values" wW:=λc=>⟨λpins s σ H x xs v us Q I rx rs h=>by
 obtain⟨φ,h,p,ps,rh,rp,jq,po⟩:=h;unfold wW at po;split at po
 ·rename_i n;split at po
  ·rename_i ys ey;obtain⟨a,rfl,ha⟩:=rp;have:xs=[]:=by cases xs <;> first|rfl|exact jq.elim
   subst this;cases rx
   cases rs
   obtain⟨hT,hm,_⟩:=Av c I rh ha ey;refine RM PySem.F.slot_dict_values hT PySem.F.entry_dict_values (PySem.F.args_dict_values_1 _) (yG a hm) ⟨hT,?_⟩;have fr:H s.heap.objs.size=none:=I.fresh;refine⟨.ref s.heap.objs.size,_,I.laid (t':=s.toks) (o:=EE 1 s.heap.objs.size a) (λb u e=>PB _ e) (PD _) ?_,rfl,?_⟩
   ·exact⟨⟨_,PR _ rfl,rfl,rfl⟩,⟨_,PR _ rfl⟩,λh1 h2 ⟨o,e,p⟩ k=>⟨o,k o e,p⟩⟩
   ·exact po (φ++[s.heap.objs.size]) (.ref _) _ (QB _ _) (Kp.new fr) (rh.new fr ⟨a,fP (QB _ _) ha,aJ⟩) ⟨_,rfl,by rw[<-rh.len];simp⟩
  ·exact po.elim
 ·exact po.elim,oS c⟩
def uA(h:PH)(n:Nat):Option (List PV):=match h[n]? with
 |some (.vw 1 d)=>iZ h d
 |_=>none
variable{acc:Array Value}
theorem F9{es:Array RU}(h:ItemsOf (λi v=>∃e,es[i]?=some e/\v=e.val) acc es.size):acc.toList=es.toList.map (·.val):=by
 apply Ro;intro i;rw[PQ,R0,R0]
 by_cases hi:i<acc.size
 ·have e1:acc[i]?=some acc[i]:=by simp[hi]
  obtain⟨e,h1,h2⟩:=h.2 i _ e1;rw[e1,h1,h2];rfl
 ·have ay:¬ i<es.size:=by rw[<-h.1];exact hi
  rw[Q5 (by omega),Q5 (by omega)];rfl
theorem Cg(e:h[n]?=some (.dK [])):bI h n=some []:=by simp[bI,e]
theorem yW(e:h[n]?=some (.dD kvs)):bI h n=some kvs:=by simp[bI,e]
theorem Dx(e:bI h n=some kvs)(hk:(PV.tup xs).ky 6=true)(hl:kvs.length<16777216):
  eY (.ref n) [.tup xs,z] h=match aM kvs (.tup xs) with|some p=>.ok p h|none=>.ok z (h.set n (.dD (fB kvs (.tup xs) z))):=by
 have k1:(PV.tup xs).isKt=true:=hk;have gf:kvs.length<PP:=by rw[iU];exact hl
 unfold eY;simp only[oK,k1,if_true,e];cases aM kvs (.tup xs) with
 |some p=>rfl
 |none=>simp only[if_pos gf]
open PySem PySem.Spec PyProof.Rows PySem.SeqAt PySem.W
def fk:PV->Nat
 |.tup (.int _::_)=>0
 |.tup (.str _::_)=>1
 |.tup (.tup _::_)=>2
 |_=>3
open PySem PySem.Spec PyProof.Rows
abbrev KP:=List Key×PV
def rP(x:KP):List KP->List KP
 |[]=>[x]
 |y::ys=>if aZ y.1 x.1=true then y::rP x ys else x::y::ys
def fX:List KP->List KP
 |[]=>[]
 |x::xs=>rP x (fX xs)
theorem mM(x:KP):∀ys,(rP x ys).Perm (x::ys)
 |[]=>.refl _
 |y::ys=>by
  unfold rP;split
  ·exact((mM x ys).cons y).trans (.swap x y ys)
  ·exact .refl _
theorem gQ:∀xs,(fX xs).Perm xs
 |[]=>.refl _
 |x::xs=>(mM x _).trans ((gQ xs).cons x)
set_option tactic.hygienic true in
theorem oW{S:List Bool}{x:KP}(hx:shape x.1=S):∀{ys:List KP},(∀y∈ys,shape y.1=S)->ys.Pairwise (λa b=>aZ b.1 a.1=false)->(rP x ys).Pairwise (λa b=>aZ b.1 a.1=false)
 |[],_,_=>List.pairwise_singleton _ _
 |y::ys,hs,hp=>by
  have hy:=hs y PN;have fv:=λz hz=>hs z (PK _ hz);rw[QV]at hp;unfold rP;split
  ·rename_i h;rw[QV];refine⟨λz hz=>?_,oW hx fv hp.2⟩;rcases P5.mp ((mM x ys).mem_iff.mp hz) with rfl|hz
   ·exact oB h
   ·exact hp.1 z hz
  ·rename_i h;have h':aZ y.1 x.1=false:=by simpa using h
   rw[QV];refine⟨λz hz=>?_,QV.mpr hp⟩;rcases P5.mp hz with rfl|hz
   ·exact h'
   ·exact lG (hx.trans hy.symm) (hy.trans (fv z hz).symm) h' (hp.1 z hz)
theorem iB{S:List Bool}:∀{xs:List KP},(∀y∈xs,shape y.1=S)->(fX xs).Pairwise (λa b=>aZ b.1 a.1=false)
 |[],_=>.nil
 |x::xs,hs=>oW (hs x PN) (λy hy=>hs y (PK _ ((gQ xs).mem_iff.mp hy))) (iB λy hy=>hs y (PK _ hy))
theorem wX{α β:Type}:∀{l:List (α×β)},(l.map (·.1)).Nodup->∀{a b:α×β},a∈l->b∈l->a.1=b.1->a=b
 |[],_,_,_,h,_,_=>nomatch h
 |x::l,nd,a,b,ha,hb,e=>by
  rw[P0,Rv]at nd;rcases P5.mp ha with rfl|ha'
  ·rcases P5.mp hb with rfl|hb'
   ·rfl
   ·exact(nd.1 (Qc.mpr ⟨b,hb',e.symm⟩)).elim
  ·rcases P5.mp hb with rfl|hb'
   ·exact(nd.1 (Qc.mpr ⟨a,ha',e⟩)).elim
   ·exact wX nd.2 ha' hb' e
theorem uB{xs ys:List KP}(hs:∀y∈xs,shape y.1=S)(nd:(xs.map (·.1)).Nodup)(hp:ys.Perm xs)(h:ys.Pairwise (λa b=>aZ b.1 a.1=false)):ys=fX xs:=by
 refine S7 (le:=λa b=>aZ b.1 a.1=false) (λa b ha hb h1 h2=>?_) h (iB hs) (hp.trans (gQ xs).symm);have ha':=hp.mem_iff.mp ha;have hb':=(gQ xs).mem_iff.mp hb;exact wX nd ha' hb' (oC ((hs a ha').trans (hs b hb').symm) h2 h1)
open Classical in
noncomputable def sortBy(b:Bool)(ks ys:List PV):Option (List PV):=match gO ks with
 |some kss=>if kss.length<64/\kss.length=ys.length/\oU kss=true/\kss.Nodup then some ((PySem.W.katRev b (fX (kss.zip ys))).map (·.2)) else none
 |none=>none
theorem Dy(h1:kss.length<64)(h2:kss.length=ys.length)(h3:oU kss=true)(h4:kss.Nodup):sortBy b (kss.map tP) ys=some ((PySem.W.katRev b (fX (kss.zip ys))).map (·.2)):=by
 unfold sortBy;rw[Ar];exact if_pos ⟨h1,h2,h3,h4⟩
noncomputable def gR(f:Fn)(b:Bool)(ys:List PV):List PV->List PV->PH->Rs PV
 |[],ks,h=>match sortBy b ks ys with
  |some zs=>.ok (.ref h.length) (h++[.lst zs])
  |none=>.bad
 |x::xs,ks,h=>(f [x] h).bind λk h1=>gR f b ys xs (ks++[k]) h1
def jA(x:PV)(h:PH):Option (List PV):=match x with
 |.ref n=>match aO h n with
  |some ys=>some ys
  |none=>uA h n
 |.fl ys=>some ys
 |_=>none
noncomputable def mN(f:Fn)(b:Bool)(x:PV)(h:PH):Rs PV:=match jA x h with
 |some ys=>if ys.length<64 then gR f b ys ys [] h else .bad
 |none=>.bad
noncomputable def jB(f:Fn)(b:Bool)(me:Me):Me:=λδ h=>(me δ h).bind λx h1=>mN f b x h1
theorem RVs.pick(r:RVs C φ H xs vs):∀{p:List Nat},(∀i∈p,i<xs.length)->RVs C φ H (p.map λi=>xs.getD i .non) (p.map λi=>vs.getD i .non)
 |[],_=>trivial
 |i::p,h=>by
  have hi:=h i PN;have g:xs[i]?=some (xs.getD i .non):=by simp[hi]
  obtain⟨v,hv,hr⟩:=r.at g;have e:vs.getD i .non=v:=by simp[Rm,hv]
  refine⟨?_,RVs.pick r λj hj=>h j (PK _ hj)⟩
  show RV C φ H (xs.getD i .non) (vs.getD i .non)
  rw[e];exact hr
theorem Fb(I:Inv X pins σ H s)(ha:s.heap.objs.size<=a):X.s₀.heap.objs.size<=a/\a≠X.env.locals/\(∀x c,X.env.cells.lookup x=some c->c≠a)/\(∀p∈X.pn++pins,p.1≠a)/\a∉X.fs:=by
 refine⟨Qb I.sz ha,Sd (P6 I.lt ha),λx c e z=>?_,λp hp z=>?_,I.nofs ha⟩
 ·obtain⟨v,o,ho,_⟩:=I.cell x c e;rw[z]at ho;exact absurd (P6 (PU ho) ha) (Q8 _)
 ·have ho:=(I.pin p hp).1;rw[z]at ho;exact absurd (P6 (PU ho) ha) (Q8 _)
theorem kL{its:Array Value}{e:Nat}:∀v,(seqObj "list" its e).data≠.cell v:=λv z=>nomatch z
theorem Inv.adopt{d:Addr}(I:Inv X pins σ H s)(ha:H a=none)(hd:H d=none)(fa:X.s₀.heap.objs.size<=a/\a≠X.env.locals/\(∀x c,X.env.cells.lookup x=some c->c≠a)/\(∀p∈X.pn++pins,p.1≠a)/\a∉X.fs)(fd:X.s₀.heap.objs.size<=d/\d≠X.env.locals/\(∀x c,X.env.cells.lookup x=some c->c≠d)/\(∀p∈X.pn++pins,p.1≠d)/\d∉X.fs)(kp:∀x u,x≠a->x≠d->s.heap.get? x=some u->h'.get? x=some u)(new:bC X.prog X.w (upd H a o) h' a o):Inv X pins σ (upd H a o) { s with heap:=h' }:=by
 have na:∀x u,H x=some u->x≠a:=λx u e z=>by rw[z,ha]at e;cases e
 have nd:∀x u,H x=some u->x≠d:=λx u e z=>by rw[z,hd]at e;cases e
 refine I.call' (s':={ s with heap:=h' }) (ch:=[a,d]) rfl ⟨λb u q n _ hx=>?_,λb u q n _ hx=>⟨u.slots,?_⟩,λb u q n hx=>?_,λb u q hx=>⟨u,?_⟩,λb xs q=>?_,λb u xs q=>?_,λb ps q=>⟨#[],?_⟩⟩ (λb u e=>?_) I.bare λb hb=>?_
 ·exact kp b u (λz=>hx (by simp[z])) (λz=>hx (by simp[z])) q
 ·exact kp b u (λz=>hx (by simp[z])) (λz=>hx (by simp[z])) q
 ·rw[aH (λz=>hx (by simp[z]))];exact n
 ·exact kp b u (λz=>hx (by simp[z])) (λz=>hx (by simp[z])) q
 ·rw[aH (na _ _ q)];exact q
 ·rw[aH (na _ _ q)];exact q
 ·rw[aH (na _ _ q),q];simp
 ·by_cases hb:b=a
  ·subst hb;rw[aJ]at e;cases e;exact new
  ·rw[aH hb]at e;refine(I.hok b u e).stay (λc v hc q=>kp c v ?_ ?_ q) (λc q=>by rw[aH (na _ _ q)];exact q) λc xs q=>by rw[aH (na _ _ q)];exact q
   ·rcases hc with z|z
    ·rw[z];exact hb
    ·exact na _ _ z
   ·rcases hc with z|z
    ·rw[z];exact nd _ _ e
    ·exact nd _ _ z
 ·rcases P5.mp hb with rfl|hb
  ·exact⟨.inr fa.1,fa.2.1,fa.2.2.1,fa.2.2.2.1⟩
  ·rw[Qe.mp hb];exact⟨.inr fd.1,fd.2.1,fd.2.2.1,fd.2.2.2.1⟩
def Kt(C:MC)(X:Cx)(pins:List (Addr×Obj))(σ:St)(φ:List Addr)(H:Hp)(f:Fn)(b:Bool)(ys:List PV)(Q:VK)(a z:Addr)(kS:Addr)(e1:Nat)(ks:List Value)(e:Nat)(s':Shared):Prop:=
 z<kS/\∃H' φ' h' zs ps,Inv X (pins++[(kS,seqObj "list" ks.toArray e),(a,seqObj "list" #[] e1)]) σ H' s'/\φ<+:φ'/\Kp H H'/\RH C φ' H' h'/\aI zs ks/\RVs C φ' H' ps zs/\post C φ' H' (gR f b ys (ys.drop ks.length) ps h') Q
variable{A':Around}{pn:List Str}
theorem Fc{k:Nat}{q:Addr}{f:Fn}{us:List V}{Q:VK}(c:Cxt C k X)(D:Def C.K X.mg x st q fd pn)(G:cE X.prog X.w C.K X.mg X.base CX0 j q fd pn (spM C 1 f))(hj:j+2<=k)(ry:RVs C φ H ys us)(rv:aI us its)(eA:A'=X.A.in1.in1)(fr:∀kS,a<=kS->X.s₀.heap.objs.size<=kS/\kS≠X.env.locals/\(∀x c,X.env.cells.lookup x=some c->c≠kS)/\(∀p∈X.pn++pins,p.1≠kS)/\kS∉X.fs)(kS:Addr)(e1:Nat)(ks:List Value)(e:Nat)(s':Shared)(y:Value)(hy:its[ks.length]?=some y)(hJ:Kt C X pins σ φ H f b ys Q a a kS e1 ks e s'):
  wpAny (model X.prog X.w) A' (call (.ref q) [y]) (λv df=>df.heap.get? kS=some (seqObj "list" ks.toArray e)/\∀(h':Heap) e',Ra kS df.heap h'->h'.get? kS=some (seqObj "list" (ks++[v]).toArray e')->Kt C X pins σ φ H f b ys Q a a kS e1 (ks++[v]) e' { df with heap:=h' }) (λ_ _=>False) s':=by
 subst eA;obtain⟨hz,H',φ',h',zs,ps,I,pp,tt,rh,rz,rp,po⟩:=hJ;have ao:ks.length<its.length:=(Pv.mp hy).1;have pf:us.length=its.length:=rv.length;have vo:ys.length=us.length:=ry.length;have gy:ys[ks.length]?=some (ys[ks.length]'(by omega)):=by simp
 obtain⟨u,hu,ru⟩:=ry.at gy;obtain⟨y',jt,OT⟩:=rv.get hu;rw[hy]at jt;cases jt
 have hd:ys.drop ks.length=ys[ks.length]'(by omega)::ys.drop (ks.length+1):=drop_cons gy;rw[hd]at po;have u9:=c.K;have G':cE X.prog X.w X.K X.mg X.base CX0 j q fd pn (spM C 1 f):=by rw[u9];exact G
 have D':Def X.K X.mg x st q fd pn:=by rw[u9];exact D
 have vb:spM C 1 f [u] H' (λv H2=>∃φ2 p h2,φ'<+:φ2/\Kp H' H2/\RH C φ2 H2 h2/\RV C φ2 H2 p v/\post C φ2 H2 (gR f b ys (ys.drop (ks.length+1)) (ps++[p]) h2) Q) E0:=
  ⟨φ',h',[ys[ks.length]'(by omega)],rh,⟨ru.mono pp tt,trivial⟩,rfl,post.bind po⟩
 have hl:([y]:List Value).length=pn.length:=G'.len _ _ _ _ vb;refine wpAny_call (codeAny_mono (G'.run X.A.in1.in1 X.stack s' H' ⟨[y],[]⟩ [y] [u] _ E0 ((c.room.mono hj).in1.in1) I.env0.in1.in1 (by
  have:=D'.bd s' [y] I.kIn (by simpa using hl)
  simpa using this) (.cons OT .nil) vb) λr s2 hq=>?_)
 cases r with
 |error e=>exact hq.elim
 |ok fl=>
  cases fl with
  |next=>exact Rn hq
  |brk=>exact Rn hq
  |cont=>exact Rn hq
  |ret v=>
   obtain⟨x2,H2,I2,yf,φ2,p2,h2,yb,ya,ah,uj,zf⟩:=I.after hq;have gk:=I2.pin (kS,seqObj "list" ks.toArray e) (PM _ (PM _ PN));have ga:=I2.pin (a,seqObj "list" #[] e1) (PM _ (PM _ (PK _ PN)));refine⟨gk.1,λg e' sb jc=>?_⟩;have fk:=fr kS (Rt hz);have zp:a≠kS:=P9 hz;have I3:Inv X (pins++[(a,seqObj "list" #[] e1)]) σ H2 s2:=I2.pins_of λp hp=>(Ql.mp hp).elim (λz=>I2.pin p (PM _ (Qx _ z))) λz=>by
    rw[Qe.mp z];exact ga
   have I4:=I3.turned (t':=s2.toks) (it:=kS) (h':=g) (λb' o' hb hq=>(sb.2 b' hb).trans hq) gk.2.1 fk.2.1 (.inr fk.1) fk.2.2.1 (λp hp=>by
    rcases Ql.mp hp with hp|hp
    ·exact fk.2.2.2.1 p (Qx _ hp)
    ·rcases Ql.mp hp with hp|hp
     ·exact fk.2.2.2.1 p (PM _ hp)
     ·rw[Qe.mp hp];exact zp)
   refine⟨hz,H2,φ2,h2,zs++[x2],ps++[p2],I4.pins_of λp hp=>?_,pp.trans yb,tt.trans ya,ah,rz.append (.cons yf .nil),(rp.mono yb ya).snoc uj,?_⟩
   ·rcases Ql.mp hp with hp|hp
    ·exact I4.pin p (PM _ (Qx _ hp))
    ·rcases P5.mp hp with rfl|hp
     ·exact⟨jc,gk.2.1,fk.2.1,fk.2.2.2.2,kL⟩
     ·rw[Qe.mp hp];exact I4.pin _ (PM _ (PM _ PN))
   ·rw[QU];exact zf
theorem Aw(hl:kss.length=ys.length)(hs:∀y∈kss,shape y=S)(nd:kss.Nodup){p:List Nat}(hp:p.Perm (Qi ys.length))(ho:p.Pairwise (λi j=>(if b then aZ (kss.getD i []) (kss.getD j []) else aZ (kss.getD j []) (kss.getD i []))=false)):p.map (λi=>ys.getD i .non)=(PySem.W.katRev b (fX (kss.zip ys))).map (·.2):=by
 let zs:=kss.zip ys;have OP:zs.length=ys.length:=by show(kss.zip ys).length=_;simp[hl]
 have cf:∀i∈p,i<ys.length:=λi hi=>by simpa using hp.mem_iff.mp hi
 have eg:∀i,i<ys.length->zs.getD i ([],.non)=(kss.getD i [],ys.getD i .non):=λi hi=>by
  have h1:i<kss.length:=by omega
  have h2:i<zs.length:=by omega
  have h3:(kss.zip ys)[i]?=some (kss[i],ys[i]):=by
   rw[List.getElem?_zip_eq_some];exact⟨by simp[h1],by simp[hi]⟩
  show(kss.zip ys).getD i _=_
  simp[h1,hi,h3]
 have wo:(p.map λi=>zs.getD i ([],.non)).Perm zs:=wI (by rw[OP];exact hp);have hm:zs.map (·.1)=kss:=by
  show(kss.zip ys).map Prod.fst=kss
  exact List.map_fst_zip (by omega)
 have hsz:∀y∈zs,shape y.1=S:=λy hy=>hs _ (by rw[<-hm];exact Qc.mpr ⟨y,hy,rfl⟩);have e2:p.map (λi=>ys.getD i .non)=(p.map λi=>zs.getD i ([],.non)).map (·.2):=by
  rw[Qw];exact Rp λi hi=>by show _=(zs.getD i _).2;rw[eg i (cf i hi)]
 rw[e2];have key:∀(R:Nat->Nat->Bool),p.Pairwise (λi j=>R i j=false)->(∀i j,i<ys.length->j<ys.length->R i j=aZ (zs.getD j ([],.non)).1 (zs.getD i ([],.non)).1)->(p.map λi=>zs.getD i ([],.non)).Pairwise (λx y=>aZ y.1 x.1=false):=λR h1 h2=>by
  rw[Rq];exact h1.imp_of_mem λ{i j} hi hj h=>by rw[<-h2 i j (cf i hi) (cf j hj)];exact h
 cases b with
 |false=>
  congr 1
  refine uB hsz (by rw[hm];exact nd) wo (key (λi j=>aZ (kss.getD j []) (kss.getD i [])) ho λi j hi hj=>by rw[eg i hi,eg j hj])
 |true=>
  congr 1
  have hr:(p.map λi=>zs.getD i ([],.non)).reverse=fX zs:=by
   refine uB hsz (by rw[hm];exact nd) ((List.reverse_perm _).trans wo) ?_;rw[List.pairwise_reverse,Rq];exact ho.imp_of_mem λ{i j} hi hj h=>by
    rw[eg i (cf i hi),eg j (cf j hj)];exact h
  show _=(fX zs).reverse
  rw[<-hr,List.reverse_reverse]
variable{kw:List (Str×Value)}
set_option tactic.hygienic true in
theorem uC{k:Nat}{q:Addr}{f:Fn}(c:Cxt C k X)(D:Def C.K X.mg x st q fd pn)(G:cE X.prog X.w C.K X.mg X.base CX0 j q fd pn (spM C 1 f))(hj:j+2<=k)(OV:∀v,argsOk "sorted" ⟨[v],kw⟩)(au:∀v,argsOk "list.sort" ⟨[.ref v],kw⟩)(ht:∀v,Builtin.«list.sort» ⟨[.ref v],kw⟩=ksk_tree v (.ref q) b){Q:VK}(I:Inv X pins σ H s)(ru:RelV v u)(h:r1 C (mN f b) v H Q):
  wpAny (model X.prog X.w) X.A (call (.builtin "sorted") [u] kw) (EP X pins σ Q) X.xe s:=by
 obtain⟨φ,h,p,rh,rp,po⟩:=h;unfold mN at po;cases ei:jA p h with
 |none=>rw[ei]at po;exact po.elim
 |some ys=>
 rw[ei]at po;obtain⟨fg,po⟩:=po.ite;refine call_function_entry_kw kind_sorted plain_sorted entry_sorted (OV u) ?_;unfold Builtin.«sorted»;refine Pi (m:=checkCount "sorted" 1 1 _) (Px ?_);have col:wpAny (model X.prog X.w) X.A.in1 (collect u) (λits s1=>∃us,Inv X pins σ H s1/\aI us its/\RVs C φ H ys us) X.xe s:=by
  have jz:∀{a:Addr}{vs:List V},v=.ref a->SqL C.K H a vs->RVs C φ H ys vs->wpAny (model X.prog X.w) X.A.in1 (collect u) (λits s1=>∃us,Inv X pins σ H s1/\aI us its/\RVs C φ H ys us) X.xe s:=λ{a vs} ev sa ra=>by
   subst ev;cases ru
   have nq:SqL X.K H a vs:=by rw[c.K];exact sa
   obtain⟨its,rv,pl,hz⟩:=I.list nq;refine collect_list pl.isList ?_ (by have:=rv.length;have:=ra.length;rw[Qt];omega);exact⟨vs,I.kept (t':=s.toks) λb o e=>by
    have ao:b<s.heap.objs.size:=PU e
    first
     |(rw[Heap.get?_update_ne _ _ _ _ (P9 ao),R7 _ _ _ (P9 ao)];exact e)
     |exact PB _ e,rv,ra⟩
  unfold jA at ei;split at ei
  ·rename_i n;split at ei
   ·rename_i ys' e;cases ei
    obtain⟨a,ev,ha⟩:=rp;obtain⟨a2,vs,au,sa,ra⟩:=cA rh e;rw[ha]at au;cases au;exact jz ev sa ra
   ·unfold uA at ei;split at ei
    ·rename_i d hv;obtain⟨a,ev,ha⟩:=rp;subst ev;cases ru
     obtain⟨bb,hb,hH⟩:=rh.at' n a _ ha hv;obtain⟨hT,hm,hz,oc,es,ep,g1,g2,ws,r1,r2⟩:=Av c I rh hb ei;have z9:s.heap.IsValuesView a bb:=(I.hok a _ hH).1;have hn:es.size<=PP:=by
      have e1:=r1.length;have e2:ws.length=es.size:=by have:=r2.length;simpa using this
      rw[<-e2,<-e1];exact hz
     refine PySem.W.kdu_collect (EA (r:=a) g2) (I.ok.hd c.calm) ⟨z9,g1⟩ hn λh' tk acc hk az=>?_;exact⟨ws,I.kept (t':=tk) hk,by rw[F9 az];exact r2,r1⟩
    ·cases ei
  ·cases ei
   obtain⟨a,vs,ev,sa,ra⟩:=rp;exact jz ev sa.sq ra
  ·cases ei
 refine Pi (RB col (λits s1 hh=>?_) λ_ _ z=>z);obtain⟨us,I1,rv,ry⟩:=hh;have pf:us.length=its.length:=rv.length;have vo:ys.length=us.length:=ry.length;refine Pi (wpAny_newList ?_ (by rw[Qt];omega));have iy:(s1.heap.push (seqObj "list" its.toArray 0)).get? s1.heap.objs.size=some (seqObj "list" its.toArray 0):=PR _ rfl;have keep:∀b o,s1.heap.get? b=some o->b≠s1.heap.objs.size/\(s1.heap.push (seqObj "list" its.toArray 0)).get? b=some o:=λb o q=>⟨P9 (PU q),PB _ q⟩;have fr:∀kS,s1.heap.objs.size<=kS->X.s₀.heap.objs.size<=kS/\kS≠X.env.locals/\(∀x c,X.env.cells.lookup x=some c->c≠kS)/\(∀p∈X.pn++pins,p.1≠kS)/\kS∉X.fs:=λkS hk=>Fb I1 hk
 show wpAny _ _ _ _ _ { s1 with heap:=s1.heap.push (seqObj "list" its.toArray 0) }
 refine Pi (QZ (wpAny_call_entry_kw slot_list_sort ⟨_,iy,rfl⟩ entry_list_sort ?body (au _)))
 case body=>
  show wpAny (model X.prog X.w) X.A.in1.in1 (Builtin.«list.sort» ⟨[.ref s1.heap.objs.size],kw⟩) _ _ _
  rw[ht s1.heap.objs.size];refine Bg (s:={ s1 with heap:=s1.heap.push (seqObj "list" its.toArray 0) }) (a:=s1.heap.objs.size) (κ:=tuples' true) (vs:=its) iy (by omega) (Kt C X pins σ φ H f b ys Q s1.heap.objs.size s1.heap.objs.size) ?h0 ?fj ?turn ?fin
  case h0=>
   intro kS e1 h' kp hk g1 g2;have j6:s1.heap.objs.size<kS:=by
    have:(s1.heap.push (seqObj "list" its.toArray 0)).objs.size<=kS:=hk;rw[Sl]at this;exact this
   have I2:Inv X pins σ H { s1 with heap:=h' }:=I1.kept (t':=s1.toks) λb o q=>kp b o (keep b o q).1 (keep b o q).2;have fk:=fr kS (Rt j6);have fa:=fr s1.heap.objs.size (PD _);refine⟨j6,H,φ,h,[],[],I2.pins_of λp hp=>?_,PF,Kp.refl H,rh,.nil,trivial,po⟩;rcases Ql.mp hp with hp|hp
   ·exact I2.pin p (PM _ hp)
   ·rcases P5.mp hp with rfl|hp
    ·exact⟨g2,I1.hok.fresh (Rt j6),fk.2.1,fk.2.2.2.2,kL⟩
    ·rw[Qe.mp hp];exact⟨g1,I1.hok.fresh (PD _),fa.2.1,fa.2.2.2.2,kL⟩
  case fj=>
   rintro kS e1 ks e s' ⟨hz,H',φ',h',zs,ps,I',_⟩;exact⟨Sd hz,(I'.pin (s1.heap.objs.size,seqObj "list" #[] e1) (PM _ (PM _ (PK _ PN)))).1,(I'.pin (kS,seqObj "list" ks.toArray e) (PM _ (PM _ PN))).1⟩
  case turn=>
   intro kS e1 ks e s' y hy hJ;exact Fc c D G hj ry rv rfl fr kS e1 ks e s' y hy hJ
  case fin=>
   rintro kS e1 ks e s' hl ⟨hz,H',φ',h',zs,ps,I',pp,tt,bt,rz,rp',po'⟩;have hd:ys.drop ks.length=[]:=List.drop_eq_nil_of_le (by omega);rw[hd]at po';unfold gR at po';cases es:sortBy b ps ys with
   |none=>rw[es]at po';exact po'.elim
   |some out=>
   rw[es]at po';unfold sortBy at es;split at es
   ·rename_i kss ek;split at es
    ·rename_i hc;obtain⟨hc1,d0,o8,zw⟩:=hc;cases es
     have ep:=tY ek;subst ep;obtain⟨bb,sh,hsh⟩:=mL o8;have rr:cF X.K H' (kss.map tD) zs:=by rw[c.K];exact oV.mp rp'
     have tk:=mG I' rr rz;have bq:∀i,i<its.length->shape (kss.getD i [])=bb::sh:=λi hi=>by
      have ay:i<kss.length:=by omega
      have:kss.getD i []=kss[i]:=by simp[ay]
      rw[this];exact hsh _ (List.getElem_mem ay)
     refine⟨λi j=>aZ (kss.getD i []) (kss.getD j []),λi j k hi hj hk h1 h2=>?_,λi j _ _ h=>oB h,λh2 Q' E' hq=>?_,λi j hi hj Q' hq=>?_,λp g e2 a1 a2 kp he gk=>?_⟩
     ·exact lG ((bq i hi).trans (bq j hj).symm) ((bq j hj).trans (bq k hk).symm) h1 h2
     ·exact wH tk hsh (by omega) hq
     ·obtain⟨a,ua,q1,p1,r1⟩:=tk.get (i:=i) (by omega);obtain⟨d,ud,q2,p2,r2⟩:=tk.get (i:=j) (by omega);rw[q1,q2];exact tB p1 p2 r1 r2 ((bq i hi).trans (bq j hj).symm) hq
     ·have cf:∀i∈p,i<its.length:=λi hi=>by simpa using a1.mem_iff.mp hi
      have fa:=fr s1.heap.objs.size (PD _);have fk:=fr kS (Rt hz);have Pa:=I'.pin (kS,seqObj "list" ks.toArray e) (PM _ (PM _ PN));have v7:=I'.pin (s1.heap.objs.size,seqObj "list" #[] e1) (PM _ (PM _ (PK _ PN)));have I5:Inv X pins σ H' s':=I'.unpinned;have I6:=I5.adopt (a:=s1.heap.objs.size) (d:=kS) (o:=.lst (p.map λi=>us.getD i .non)) (h':=g) v7.2.1 Pa.2.1 fa fk (λx o h1 h2 q=>kp x o h1 h2 q) (by
       refine⟨?_,p.map (λi=>its.getD i P7),e2,pT rv (λi hi=>by have:=cf i hi;omega),he⟩;rw[PC,a1.length_eq,R8,Qt];omega)
      refine⟨_,rfl,Px ⟨_,rfl,.ref s1.heap.objs.size,_,I6,rfl,?_⟩⟩;refine po'.lnew bt ?_ v7.2.1;rw[<-Aw (b:=b) d0 hsh zw (p:=p) (by rw[vo,pf];exact a1) a2];exact(ry.mono pp tt).pick (λi hi=>by have:=cf i hi;omega)
    ·cases es
   ·cases es
variable{dn kp:Pos}{kf:Str}
section
variable{q:Addr}{jb:Nat}{f:Fn}{p rp gp:Pos}
theorem Ax{Q:VK}(h:rd C (jB f b me) σ H Q):IL (rd C me) GK σ H λvs H1=>∃x,vs=[x]/\r1 C (mN f b) x H1 Q:=by
 obtain⟨φ,δ,h,rh,re,po⟩:=h;refine⟨φ,δ,h,rh,re,(post.bind po).imp ?_⟩;rintro v H1 ⟨φ1,x,h1,p1,t1,aa,ab,q1⟩;exact⟨v,rfl,φ1,h1,x,aa,ab,q1⟩
theorem HL{k:Nat}(D:Def C.K X.mg kf st q fd pn)(G:cE X.prog X.w C.K X.mg X.base CX0 j q fd pn (spM C 1 f))(he:SE C k X e me)(hb:("sorted" : Str)∈C.bs)(hj:j+2<=k:=by decide)(hg:Gl X "sorted" := by rfl)(t8:Gl X kf:=by rfl)(hdk:(kf == ("__debug__" : Str))=false:=by decide)(e7:P3 [e] X.env=(false,eval e X.env)::P3 [] X.env:=by rfl)(um:backTo pos (P3 [e] X.env)=(false,eval e X.env)::backTo pos (P3 [] X.env):=by rfl)(bg:(backTo pos (P3 [e] X.env)).any (·.1)=false:=by rfl):
  SE C k X (.Call (.Name "sorted" p) [e] [⟨some "key",.Name kf kp,dn⟩] pos) (jB f false me):=λc pins s σ H Q I h=>by
 refine QT (jW I hg (c.bn _ hb) PyProof.Rows.Boot.«sorted» ?_ (by decide) (by decide));refine callWith_kw (thn (rY (he c) xS e7 pos pins s σ H _ I (Ax h)) λus s1 hh=>?_) um bg;obtain⟨vs,H1,I1,rv,x,rfl,r⟩:=hh;obtain⟨u,rfl,ru⟩:=vals1 rv;refine kws_cons (iM I1 t8 D.mg (kws_nil ?_) hdk)
 show wpAny _ _ (call (.builtin "sorted") [u] [(Pz "key",.ref q)]) _ _ _
 exact uC c D G hj (λv=>ksk_s1 _ _) (λv=>ksk_l1 _ _) (λv=>ksk_t1 _ _) I1 ru r
theorem Fd{k:Nat}(D:Def C.K X.mg kf st q fd pn)(G:cE X.prog X.w C.K X.mg X.base CX0 j q fd pn (spM C 1 f))(he:SE C k X e me)(hb:("sorted" : Str)∈C.bs)(hj:j+2<=k:=by decide)(hg:Gl X "sorted" := by rfl)(t8:Gl X kf:=by rfl)(hdk:(kf == ("__debug__" : Str))=false:=by decide)(e7:P3 [e] X.env=(false,eval e X.env)::P3 [] X.env:=by rfl)(um:backTo pos (P3 [e] X.env)=(false,eval e X.env)::backTo pos (P3 [] X.env):=by rfl)(bg:(backTo pos (P3 [e] X.env)).any (·.1)=false:=by rfl):
  SE C k X (.Call (.Name "sorted" p) [e] [⟨some "key",.Name kf kp,dn⟩,⟨some "reverse",.Constant (.bool b) jb rp,gp⟩] pos) (jB f b me):=λc pins s σ H Q I h=>by
 refine QT (jW I hg (c.bn _ hb) PyProof.Rows.Boot.«sorted» ?_ (by decide) (by decide));refine callWith_kw (thn (rY (he c) xS e7 pos pins s σ H _ I (Ax h)) λus s1 hh=>?_) um bg;obtain⟨vs,H1,I1,rv,x,rfl,r⟩:=hh;obtain⟨u,rfl,ru⟩:=vals1 rv;refine kws_cons (iM I1 t8 D.mg (kws_cons (Constant_bool (kws_nil ?_))) hdk)
 show wpAny _ _ (call (.builtin "sorted") [u] [(Pz "key",.ref q),(Pz "reverse",.bool b)]) _ _ _
 exact uC c D G hj (λv=>ksk_s2 _ _ _) (λv=>ksk_l2 _ _ _) (λv=>ksk_t2 _ _ _) I1 ru r
end
open PySem
section
variable{α:Type}(key:α->List Key)
def Dz(x:α):List α->List α
 |[]=>[x]
 |y::ys=>if aZ (key y) (key x)=true then y::Dz x ys else x::y::ys
def kM:List α->List α
 |[]=>[]
 |x::xs=>Dz key x (kM xs)
variable{key}
theorem wY(x:α):∀ys,(Dz key x ys).Perm (x::ys)
 |[]=>.refl _
 |y::ys=>by
  unfold Dz;split
  ·exact((wY x ys).cons y).trans (.swap x y ys)
  ·exact .refl _
theorem mO:∀xs,(kM key xs).Perm xs
 |[]=>.refl _
 |x::xs=>(wY x _).trans ((mO xs).cons x)
theorem Ay(f:α->PV)(x:α):∀ys:List α,rP (key x,f x) (ys.map λy=>(key y,f y))=(Dz key x ys).map λy=>(key y,f y)
 |[]=>rfl
 |y::ys=>by
  rw[P0];unfold rP Dz;dsimp only;split
  ·rw[Ay f x ys];rfl
  ·rfl
theorem qB(f:α->PV):∀xs:List α,fX (xs.map λy=>(key y,f y))=(kM key xs).map λy=>(key y,f y)
 |[]=>rfl
 |x::xs=>by
  rw[P0];unfold fX kM;rw[qB f xs,Ay]
theorem yX(f:α->PV){xs:List α}(hs:∀x∈xs,shape (key x)=S):(kM key xs).Pairwise (λa b=>aZ (key b) (key a)=false):=by
 have h:=iB (S:=S) (xs:=xs.map λy=>(key y,f y)) (λy hy=>by
  obtain⟨x,hx,rfl⟩:=Qc.mp hy;exact hs x hx)
 rw[qB,Rq]at h;exact h
theorem Az{β γ:Type}(f:α->β)(g:α->γ):∀xs:List α,(xs.map f).zip (xs.map g)=xs.map λx=>(f x,g x)
 |[]=>rfl
 |x::xs=>by simp[Az f g xs]
theorem Fe{f:α->PV}{xs:List α}(h1:xs.length<64)(h3:oU (xs.map key)=true)(h4:(xs.map key).Nodup):sortBy b ((xs.map key).map tP) (xs.map f)=some ((PySem.W.katRev b (kM key xs)).map f):=by
 rw[Dy (by simpa using h1) (by simp) h3 h4,Az,qB]
 cases b with
 |false=>
  show some (((kM key xs).map λy=>(key y,f y)).map Prod.snd)=some ((kM key xs).map f)
  rw[Qw];rfl
 |true=>
  show some ((((kM key xs).map λy=>(key y,f y)).reverse).map Prod.snd)=some ((kM key xs).reverse.map f)
  rw[<-List.map_reverse,Qw];rfl
theorem Ff{f:Fn}{b:Bool}{emb:α->PV}{ys zs:List PV}{Q:PV->PH->Prop}:∀(r done:List α)(h:PH),(∀d∈r,∀h(Q:PV->PH->Prop),(∀h',Ext h h'->Q (tP (key d)) h')->(f [emb d] h).W Q)->
  sortBy b (((done++r).map key).map tP) ys=some zs->(∀h',Ext h h'->Q (.ref h'.length) (h'++[.lst zs]))->(gR f b ys (r.map emb) ((done.map key).map tP) h).W Q
 |[],done,h,_,hs,k=>by
  rw[Ru]at hs;simp only[List.map_nil,gR,hs,rV];exact k h (Ext.refl h)
 |x::r,done,h,hf,hs,k=>by
  rw[P0];unfold gR;rw[Bj];refine hf x PN h _ λh1 x1=>?_;have e:(done.map key).map tP++[tP (key x)]=((done++[x]).map key).map tP:=by simp
  rw[e];exact Ff r (done++[x]) h1 (λd hd=>hf d (PK _ hd)) (by rw[List.append_assoc];exact hs) λh' x2=>k h' (x1.trans x2)
theorem yY{f:Fn}{emb:α->PV}{xs:List α}{x:PV}{Q:PV->PH->Prop}(e:jA x h=some (xs.map emb))(h1:xs.length<64)(h3:oU (xs.map key)=true)(hs:∀x∈xs,shape (key x)=S)(h4:(xs.map key).Nodup)(hf:∀d∈xs,∀h(Q:PV->PH->Prop),(∀h',Ext h h'->Q (tP (key d)) h')->(f [emb d] h).W Q)(k:∀(os:List α) h',Ext h h'->os.Perm xs->os.Pairwise (λp q=>(if b then aZ (key p) (key q) else aZ (key q) (key p))=false)->Q (.ref h'.length) (h'++[.lst (os.map emb)])):(mN f b x h).W Q:=by
 unfold mN;rw[e];dsimp only;rw[if_pos (by simpa using h1)]
 refine Ff (key:=key) xs [] h hf (Fe h1 h3 h4) λh' hx=>k _ h' hx ?_ ?_
 ·cases b with
  |false=>exact mO xs
  |true=>exact(List.reverse_perm _).trans (mO xs)
 ·have hp:=yX emb hs;cases b with
  |false=>exact hp
  |true=>
   show((kM key xs).reverse).Pairwise _
   rw[List.pairwise_reverse];exact hp
end
@[simp]theorem L7{f:Fn}:jB f b m δ h=(m δ h).bind λx h1=>mN f b x h1:=(rfl)
theorem uD(e:h[n]?=some (.lst xs)):jA (.ref n) h=some xs:=by simp[jA,aO,e]
set_option tactic.hygienic true in
theorem wZ(e:bI h n=some kvs):iZ h n=some (kvs.map (·.2)):=by
 unfold bI at e;split at e
 ·rename_i q;cases e;simp[iZ,q]
 ·rename_i q;cases e;simp[iZ,q]
 ·cases e
set_option tactic.hygienic true in
theorem fY(e:bI h n=some kvs):∃o,h[n]?=some o/\bO (.ref n) h=true/\∀h',h'[n]?=some o->bI h' n=some kvs:=by
 unfold bI at e;split at e
 ·rename_i q;cases e;exact⟨_,q,by simp[bO,q],λh' e=>by simp[bI,e]⟩
 ·rename_i q;cases e;exact⟨_,q,by simp[bO,q],λh' e=>by simp[bI,e]⟩
 ·cases e
theorem Fg{h':PH}(x:Ext h h')(e:bI h n=some kvs):bI h' n=some kvs:=by
 obtain⟨o,g,_,k⟩:=fY e;exact k h' (x _ _ g)
theorem AA{d:Nat}(e:h[n]?=some (.vw 1 d))(e2:bI h d=some kvs):jA (.ref n) h=some (kvs.map (·.2)):=by
 have e1:aO h n=none:=by simp[aO,e]
 simp only[jA,e1,uA,e];exact wZ e2
theorem HM{d:Nat}(e:bI h d=some kvs):wW (.ref d) [] h=.ok (.ref h.length) (h++[.vw 1 d]):=by simp[wW,wZ e]
theorem Fh(e:bI h n=some kvs)(hk:(PV.tup xs).ky 6=true)(hl:kvs.length<16777216):tX (.ref n) (.tup xs) z h=some (h.set n (.dD (fB kvs (.tup xs) z))):=by
 have k1:(PV.tup xs).isKt=true:=hk;have gf:kvs.length<PP:=by rw[iU];exact hl
 unfold tX;simp only[oK,k1,if_true,e];rw[if_pos gf]
theorem DA(e:bI h n=some kvs)(hk:(PV.tup xs).ky 6=true):cY (.tup xs) (.ref n) h=.ok (.bl (!(aM kvs (.tup xs)).isSome)) h:=by
 have k1:(PV.tup xs).isKt=true:=hk;have:fK (.tup xs) (.ref n) h=some (aM kvs (.tup xs)):=by simp only[fK,k1,if_true,e,SJ]
 unfold cY;rw[this]
theorem Ku(e:bI h n=some kvs)(hk:(PV.tup xs).ky 6=true):kI (.tup xs) (.ref n) h=.ok (.bl (aM kvs (.tup xs)).isSome) h:=by
 have k1:(PV.tup xs).isKt=true:=hk;have:fK (.tup xs) (.ref n) h=some (aM kvs (.tup xs)):=by simp only[fK,k1,if_true,e,SJ]
 unfold kI;rw[this]
@[simp]theorem Kv:tO .non=true:=(rfl)
theorem Ext.setN{hX:PH}{o:MO}(x:Ext h hX)(hn:h.length<=n):Ext h (hX.set n o):=λm o' e=>by
 have:=(Pv.mp e).1;rw[QQ (by omega)];exact x m o' e
theorem Bp:∀{ss:List Str},ss≠[]->gO (ss.map PV.str)=none
 |[],h=>(h rfl).elim
 |_::_,_=>rfl
theorem uE:∀ss:List Str,gM (ss.map PV.str)=some (ss.map Rg)
 |[]=>rfl
 |x::ss=>by simp[gM,oK,uE ss]
variable{ss:List Str}
theorem DB(h:∀z∈kss,∃x∈ss,z=[.inr x]):∃zs:List Str,kss.flatten.map kP=zs.map PV.str/\kss=zs.map (λx=>[Rg x]):=by
 induction kss with
 |nil=>exact⟨[],rfl,rfl⟩
 |cons a r ih=>
  obtain⟨x,_,rfl⟩:=h a PN;obtain⟨zs,e1,e2⟩:=ih λz hz=>h z (PK _ hz);refine⟨x::zs,?_,by rw[e2];rfl⟩
  show(([Rg x]++r.flatten).map kP)=_
  rw[Qq,e1];rfl
def unS:List Key->Str
 |[.inr x]=>x
 |_=>""
theorem yZ(e:h[n]?=some (.lst (ss.map PV.str)))(hl:ss.length<64):∃zs:List Str,zs.Perm ss/\iY [.ref n] h=.ok (.ref h.length) (h++[.lst (zs.map PV.str)]):=by
 have e3:aO h n=some (ss.map PV.str):=by simp[aO,e]
 by_cases hs:ss=[]
 ·subst hs;refine⟨[],.refl _,?_⟩;have Pt:aO h n=some []:=e3;simp only[iY,Pt,Cf,gO];rw[if_pos ⟨by decide,rfl⟩];rfl
 ·have hp:=fC ((ss.map Rg).map λx=>[(x:Key)]);obtain⟨zs,e1,e2⟩:=DB (ss:=ss) (kss:=iX ((ss.map Rg).map λx=>[(x:Key)])) λz hz=>by
   have:=hp.mem_iff.mp hz;rw[Qw]at this;obtain⟨x,hx,rfl⟩:=Qc.mp this;exact⟨x,hx,rfl⟩
  refine⟨zs,?_,?_⟩
  ·rw[e2,Qw]at hp;have h2:=hp.map unS;rw[Qw,Qw]at h2;have i1:(unS∘λx=>[(Rg x:Key)])=id:=by funext x;rfl
   have i2:(unS∘(λx=>[(x:Key)])∘Rg)=id:=by funext x;rfl
   rw[i1,i2,List.map_id,List.map_id]at h2;exact h2
  ·simp only[iY,e3,Cf,Bp hs,uE];rw[if_pos ⟨by simpa using hl,Qf.mpr λz hz=>by
    obtain⟨x,_,rfl⟩:=Qc.mp hz;rfl⟩]
   dsimp only;rw[e1]
theorem Kw{kvs:List (Key×PV)}(e:h[n]?=some (.dK kvs)):vIx (.ref n) (.str x) h=ofO (aM kvs (.inr x)) h:=by
 have e1:aO h n=none:=by simp[aO,e]
 simp[vIx,e1,yK,e,oK]
theorem qC{m:Nat}(e1:h[n]?=some (.lst xs))(e2:h[m]?=some (.lst ys))(c:xs.length+ys.length<=16777216):bJ (.ref n) (.ref m) h=.ok (.ref h.length) (h++[.lst (xs++ys)]):=by
 show EG (.ref n) (.ref m) h=_
 simp[EG,cQ,e1,e2,c]
open PySem PySem.Spec PyProof.Rows
def vJ(f:Str)(p:PV):List (Str×PV)->List (Str×PV)
 |[]=>[(f,p)]
 |(g,x)::r=>if g=f then(g,p)::r else(g,x)::vJ f p r
def fZ(x:PV)(h:PH):Option (Nat×Str×List (Str×PV)):=match x with
 |.ref n=>match h[n]? with
  |some (.ins c fs)=>some (n,c,fs)
  |_=>none
 |_=>none
def bL(f:Str):PV->PH->Rs PV:=λx h=>match fZ x h with
 |some (_,_,fs)=>match fs.lookup f with
  |some p=>.ok p h
  |none=>.bad
 |none=>.bad
def lV(f:Str)(x y:PV)(h:PH):Option PH:=match fZ x h with
 |some (n,c,fs)=>if fs.length<1000 then some (h.set n (.ins c (vJ f y fs))) else none
 |none=>none
theorem Fi{fs:List (Str×PV)}{ks:List (Str×V)}(r:RKv C φ H fs ks)(f:Str)(rv:RV C φ H p v):RKv C φ H (vJ f p fs) (hZ f v ks):=by
 unfold RKv at r⊢
 induction r with
 |nil=>exact .cons ⟨rfl,rv⟩ .nil
 | @cons a b as bs h t ih=>
  obtain⟨a1,a2⟩:=a;obtain⟨b1,b2⟩:=b;have e:a1=b1:=h.1;subst e;unfold vJ hZ
  by_cases z:a1=f
  ·rw[if_pos z,if_pos z];exact .cons ⟨rfl,rv⟩ t
  ·rw[if_neg z,if_neg z];exact .cons h ih
theorem mQ{fs:List (Str×PV)}{ks:List (Str×V)}(r:RKv C φ H fs ks)(f:Str):(fs.lookup f=none/\ks.lookup f=none)\/∃p v,fs.lookup f=some p/\ks.lookup f=some v/\RV C φ H p v:=by
 unfold RKv at r
 induction r with
 |nil=>exact .inl ⟨rfl,rfl⟩
 | @cons a b as bs h t ih=>
  obtain⟨a1,a2⟩:=a;obtain⟨b1,b2⟩:=b;have e:a1=b1:=h.1;subst e;simp only[P8];cases z:(f == a1) with
  |true=>exact .inr ⟨a2,b2,rfl,rfl,h.2⟩
  |false=>exact ih
variable{c:Str}
set_option tactic.hygienic true in
theorem oX{x:PV}{fs:List (Str×PV)}(rh:RH C φ H h)(rv:RV C φ H x v)(e:fZ x h=some (n,c,fs)):
  ∃a ca dx ks,x=.ref n/\v=.ref a/\φ[n]?=some a/\h[n]?=some (.ins c fs)/\C.cl c=some ca/\H a=some (.ins ca dx ks)/\RKv C φ H fs ks:=by
 unfold fZ at e;cases x with
 |ref m=>
  obtain⟨a,rfl,ha⟩:=rv;dsimp only at e;split at e
  ·rename_i c' ku q;cases e
   obtain⟨ca,dx,ks,h1,h2,h3⟩:=rh.at' _ a _ ha q;exact⟨a,ca,dx,ks,rfl,rfl,ha,q,h1,h2,h3⟩
  ·cases e
 |_=>cases e
def DC(C:MC)(f:Str):Prop:=∀c a,C.cl c=some a->Cls C.K a/\iA C.K a f
variable{h3:PH}{mv:Me}{value:Expr}{jg:Pos}
section
variable{o:Expr}{f:Str}
theorem MZ{k:Nat}(hF:DC C f)(he:SE C k X e m)(hb:Sh e f X.env (eval e X.env)=eval e X.env:=by rfl):SE C k X (.Attribute e f pos) (mUn (bL f) m):=λc=>
 (Jr (he c) hb).imp λσ H Q h=>by
  obtain⟨φ,δ,h,rh,re,p⟩:=h;refine⟨φ,δ,h,rh,re,(post.bind p).imp ?_⟩;rintro v H1 ⟨φ1,x,h1,p1,t1,aa,ab,q1⟩;unfold bL at q1;cases ei:fZ x h1 with
  |none=>rw[ei]at q1;exact q1.elim
  |some z=>
   obtain⟨n,cn,fs⟩:=z;rw[ei]at q1;dsimp only at q1;obtain⟨a,ca,dx,ks,rfl,rfl,ha,hh,hc,hH,rk⟩:=oX aa ab ei;obtain⟨cl,na⟩:=hF cn ca hc;rcases mQ rk f with⟨l1,_⟩|⟨y,u,l1,l2,ru⟩
   ·rw[l1]at q1;exact q1.elim
   ·rw[l1]at q1;exact⟨a,ca,dx,ks,u,rfl,hH,by rw[c.K];exact cl,by rw[c.K];exact na,l2,q1.val aa ru⟩
def cL(f:Str)(mo mv:Me):Ms:=λδ h=>(mv δ h).fl λy h1=>(mo δ h1).fl λx h2=>match lV f x y h2 with
 |some h3=>.nx δ h3
 |none=>.bad
set_option tactic.hygienic true in
theorem Ci{k:Nat}{x y:PV}{u:V}{D:Ends}(c:Cxt C k X)(hF:DC C f)(rh:RH C φ H h)(re:RE C φ H δ σ)(rx:RV C φ H x v)(ry:RV C φ H y u)(es:lV f x y h=some h3)(q:bN C φ H (.nx δ h3) D):
  ∃a ca dx ks,v=.ref a/\H a=some (.ins ca dx ks)/\Cls X.K ca/\iA X.K ca f/\ks.length<1000/\D.nx σ (upd H a (.ins ca dx (hZ f u ks)))/\∃n cn fs,fZ x h=some (n,cn,fs)/\C.cl cn=some ca:=by
 unfold lV at es;cases ei:fZ x h with
 |none=>rw[ei]at es;cases es
 |some z=>
  obtain⟨n,cn,fs⟩:=z;rw[ei]at es;dsimp only at es;split at es
  ·rename_i hl;cases es
   obtain⟨a,ca,dx,ks,rfl,rfl,ha,hh,hc,hH,rk⟩:=oX rh rx ei;obtain⟨cl,na⟩:=hF cn ca hc;have kp:Kp H (upd H a (.ins ca dx (hZ f u ks))):=Kp.upd (by rw[hH];trivial);refine⟨a,ca,dx,ks,rfl,hH,by rw[c.K];exact cl,by rw[c.K];exact na,by rw[<-Qz rk];exact hl,?_⟩;refine⟨q φ σ _ PF kp (rh.write ha (by rw[hH];trivial) ⟨ca,dx,_,hc,aJ,?_⟩) (re.mono PF kp),n,cn,fs,rfl,hc⟩;exact(Fi rk f ry).mono PF kp
  ·cases es
theorem N0{k:Nat}(hF:DC C f)(hv:SE C k X value mv)(ho:SE C k X o mo)(hs:S8 value (some (.Attribute o f pos')) pos.line X.env=pure false:=by rfl):SSt C k X (.Assign [.Attribute o f pos'] value pos) (cL f mo mv):=λc=>
 (Js (ho c) (hv c) hs).imp λD σ H h=>by
  obtain⟨φ,δ,h,rh,re,p⟩:=h;refine⟨φ,δ,h,rh,re,(post.fl p).imp ?_⟩;rintro u H1 ⟨φ1,y,h1,p1,t1,aa,ab,q1⟩;refine⟨φ1,δ,h1,aa,re.mono p1 t1,(post.fl q1).imp ?_⟩;rintro v H2 ⟨φ2,x,h2,p2,t2,ah,b8,q2⟩;cases es:lV f x y h2 with
  |none=>rw[es]at q2;exact q2.elim
  |some h3=>
   rw[es]at q2;obtain⟨a,ca,dx,ks,g1,g2,g3,g4,g5,g6,_⟩:=Ci c hF ah ((re.mono p1 t1).mono p2 t2) b8 (ab.mono p2 t2) es q2;exact⟨a,ca,dx,ks,g1,g2,g3,g4,g5,g6⟩
def HN(f:Str)(δ:Ev)(cn:Str)(x z y:PV)(h:PH):Fl:=match z,y with
 |.int i,.int j=>match fZ x h with
  |some (_,c,_)=>if c=cn then(match lV f x (.int (i+j)) h with
   |some h3=>.nx δ h3
   |none=>.bad) else .bad
  |none=>.bad
 |_,_=>.bad
def Cj(f:Str)(mo mv:Me):Ms:=λδ h=>(mo δ h).fl λx h1=>match fZ x h1 with
 |some (_,cn,fs)=>match fs.lookup f with
  |some z=>(mv δ h1).fl λy h2=>HN f δ cn x z y h2
  |none=>.bad
 |none=>.bad
set_option tactic.hygienic true in
theorem Fj{k:Nat}(hF:DC C f)(ho:SE C k X o mo)(hv:SE C k X value mv):SSt C k X (.AugAssign (.Attribute o f jg) .Add value pos) (Cj f mo mv):=λc=>
 (CL (ho c) (hv c) Jt).imp λD σ H h=>by
  obtain⟨φ,δ,h,rh,re,p⟩:=h;refine⟨φ,δ,h,rh,re,(post.fl p).imp ?_⟩;rintro v H1 ⟨φ1,x,h1,p1,t1,aa,ab,q1⟩;cases ei:fZ x h1 with
  |none=>rw[ei]at q1;exact q1.elim
  |some z=>
   obtain⟨n,cn,fs⟩:=z;rw[ei]at q1;dsimp only at q1;obtain⟨a,ca,dx,ks,rfl,rfl,ha,hh,hc,hH,rk⟩:=oX aa ab ei;obtain⟨cl,na⟩:=hF cn ca hc;rcases mQ rk f with⟨l1,_⟩|⟨zz,u,l1,l2,ru⟩
   ·rw[l1]at q1;exact q1.elim
   ·rw[l1]at q1;have Pf:bN C φ1 H1 ((mv δ h1).fl λy h2=>HN f δ cn (.ref n) zz y h2) D:=q1;refine⟨a,ca,dx,ks,u,rfl,hH,by rw[c.K];exact cl,by rw[c.K];exact na,l2,φ1,δ,h1,aa,re.mono p1 t1,(post.fl Pf).imp ?_⟩;rintro w H2 ⟨φ2,y,h2,p2,t2,ah,b8,q2⟩;unfold HN at q2;cases zz with
    |int i=>
     cases y with
     |int j=>
      dsimp only at q2;cases ru
      cases b8
      cases ei2:fZ (.ref n) h2 with
      |none=>rw[ei2]at q2;exact q2.elim
      |some z2=>
       obtain⟨n2,cn2,fs2⟩:=z2;rw[ei2]at q2;dsimp only at q2;split at q2
       ·rename_i ec;subst ec;cases es:lV f (.ref n) (.int (i+j)) h2 with
        |none=>rw[es]at q2;exact q2.elim
        |some h3=>
         rw[es]at q2;obtain⟨a2,ca2,zc,zb,e1,zt,_,_,ix,nx,n3,cn3,fs3,e3,o8⟩:=Ci c hF ah ((re.mono p1 t1).mono p2 t2) (ab.mono p2 t2) (show RV C φ2 H2 (.int (i+j)) (.int (i+j)) from rfl) es q2
         cases e1
         rw[ei2]at e3;cases e3
         rw[hc]at o8;cases o8
         exact⟨i,j,rfl,rfl,zc,zb,zt,ix,nx⟩
       ·exact q2.elim
     |_=>exact q2.elim
    |_=>cases y <;> exact q2.elim
end
def AB(C:MC)(X:Cx)(k:Nat)(m:Str)(n:Nat)(tb:Str->Option Fn):Prop:=∀c a f,C.cl c=some a->tb c=some f->
 ∃g fd ps j,Cls C.K a/\CK C.K a m g/\j<=k/\cE X.prog X.w C.K X.mg X.base CX0 j g fd ps (spM C (n+1) f)/\Binds C.K fd ps []
theorem Kx{k:Nat}{m:Str}:AB C X k m n (λ_=>none):=λ_ _ _ _ h=>nomatch h
variable{tb:Str->Option Fn}
theorem HP{k:Nat}{m:Str}{g:Addr}{f:Fn}(hc:C.cl c=some a)(hC:Cls C.K a)(me:CK C.K a m g)(hj:j<=k)(G:cE X.prog X.w C.K X.mg X.base CX0 j g fd ps (spM C (n+1) f))(B:Binds C.K fd ps [])(r:AB C X k m n tb):
  AB C X k m n (λz=>if z=c then some f else tb z):=λc' a' f' h1 h2=>by
 have dg:(if c'=c then some f else tb c')=some f':=h2
 by_cases e:c'=c
 ·subst e;rw[hc]at h1;cases h1
  rw[if_pos rfl]at dg;cases dg
  exact⟨g,fd,ps,j,hC,me,hj,G,B⟩
 ·rw[if_neg e]at dg;exact r c' a' f' h1 dg
def fD(m:Str)(n:Nat)(tb:Str->Option Fn)(mo:Me)(ms:Ma):Me:=λδ h=>(mo δ h).bind λx h1=>match fZ x h1 with
 |some (_,c,fs)=>match tb c,fs.lookup m with
  |some f,none=>(ms δ h1).bind λps h2=>if ps.length=n then f (x::ps) h2 else .bad
  |_,_=>.bad
 |none=>.bad
theorem Ky{k:Nat}{o:Expr}{m:Str}{pl:Sem Bool}(hM:AB C X k m n tb)(ho:SE C k X o mo)(ha:SA C k X (e::es) ms)(e7:P3 (e::es) X.env=(false,eval e X.env)::P3 es X.env:=by rfl)(bg:(backTo pos (P3 es X.env)).any (·.1)=false:=by rfl)(ht:eval (.Call (.Attribute o m apos) (e::es) [] pos) X.env=(do
   let ov <-eval o X.env
   standAt apos.atName
   let (f,first) <-holding [ov] (getMethod ov m pl)
   callWith pos f first (backTo pos (P3 (e::es) X.env)) (backToKw pos (keywordEach [] X.env))):=by rfl):
  SE C k X (.Call (.Attribute o m apos) (e::es) [] pos) (fD m n tb mo ms):=λc pins s σ H Q I h=>by
 obtain⟨φ,δ,h,rh,re,p⟩:=h
 refine PySem.W.methodCall_KW (pl:=pl) (thn (ho c pins s σ H _ I ⟨φ,δ,h,rh,re,post.bind p⟩) λu s1 hh=>?_) ht
 obtain⟨v,H1,I1,ru,φ1,x,h1,p1,t1,aa,ab,q1⟩:=hh
 cases ei:fZ x h1 with
 |none=>rw[ei]at q1;exact q1.elim
 |some z=>
  obtain⟨n',cn,fs⟩:=z
  rw[ei]at q1
  dsimp only at q1
  obtain⟨a,ca,dx,ks,rfl,rfl,hφ,hh,hc,hH,rk⟩:=oX aa ab ei
  cases et:tb cn with
  |none=>rw[et]at q1;exact q1.elim
  |some f=>
   rw[et]at q1
   rcases mQ rk m with⟨l1,l2⟩|⟨y,u',l1,_⟩
   ·rw[l1]at q1
    dsimp only at q1
    obtain⟨g,fd,ps,j,cl,me,hj,F,bd⟩:=hM cn ca f hc et
    have yg:Cls X.K ca:=by rw[c.K];exact cl
    have v5:CK X.K ca m g:=by rw[c.K];exact me
    have F':cE X.prog X.w X.K X.mg X.base CX0 j g fd ps (spM C (n+1) f):=by rw[c.K];exact F
    have m6:Binds X.K fd ps []:=by rw[c.K];exact bd
    cases ru
    refine AX I1 hH yg v5 l2 ?_
    refine PySem.W.callWith_K (first:=[.ref a]) (h₀:=X.base) I.ok.mod.kin v5.kp (thn (ha c pos pins s1 σ H1 _ I1 ⟨φ1,δ,h1,aa,re.mono p1 t1,postA.bind q1⟩) λus s2 h2=>?_) e7 bg
    obtain⟨vs,H2,I2,r2,φ2,zs,h3,p2,t2,ah,b8,q2⟩:=h2
    obtain⟨hl,q2⟩:=q2.ite
    refine⟨I2.kIn,?_⟩
    exact B0 (us:=.ref a::us) (vs:=.ref a::vs) F' (c.room.mono hj) m6 .nil A6 I2 (.cons rfl r2) ⟨φ2,h3,.ref n'::zs,ah,⟨⟨a,rfl,fP p2 hφ⟩,(by show RVs C φ2 H2 zs (vs++[]);rw[Ru];exact b8)⟩,by simp[hl],q2⟩
   ·rw[l1]at q1;exact q1.elim
def gA(cn:Str)(n:Nat)(f:Fn)(ms:Ma):Me:=λδ h=>(ms δ h).bind λps h1=>if ps.length=n then(f (.ref h1.length::ps) (h1++[.ins cn []])).bind λv h2=>(match v with
 |.non=>.ok (.ref h1.length) h2
 |_=>.bad) else .bad
variable{ca:Addr}{cn:Str}{zs:List PV}
theorem Ck{fn:Fn}{Q:VK}(hc:C.cl cn=some ca)(rh:RH C φ H h)(rv:RVs C φ H zs vs)(q:post C φ H (if zs.length=n then(fn (.ref h.length::zs) (h++[.ins cn []])).bind λv h2=>(match v with|.non=>Rs.ok (.ref h.length) h2|_=>.bad) else .bad) Q):
  ∀y dx,H y=none->H dx=none->dx≠y->spM C (n+1) fn (.ref y::(vs++[])) (upd (upd H dx (.own y)) y (.ins ca dx [])) (λv H2=>v=.non/\Q (.ref y) H2) E0:=λy dx hy hd ne=>by
 obtain⟨hl,q⟩:=q.ite;have jt:(upd H dx (.own y)) y=none:=by rw[aH (QS ne)];exact hy
 have k1:Kp H (upd H dx (.own y)):=Kp.new hd;have k2:Kp (upd H dx (.own y)) (upd (upd H dx (.own y)) y (.ins ca dx [])):=Kp.new jt;have ah:RH C (φ++[y]) (upd (upd H dx (.own y)) y (.ins ca dx [])) (h++[.ins cn []]):=(rh.aside hd).new jt ⟨ca,dx,[],hc,aJ,.nil⟩;have wc:RV C (φ++[y]) (upd (upd H dx (.own y)) y (.ins ca dx [])) (.ref h.length) (.ref y):=⟨y,rfl,by rw[<-rh.len];simp⟩;refine⟨φ++[y],h++[.ins cn []],.ref h.length::zs,ah,⟨wc,by rw[Ru];exact rv.mono (QB _ _) (k1.trans k2)⟩,by simp[hl],?_⟩;refine(post.bind (post.weak (QB _ [y]) (k1.trans k2) q)).imp ?_;rintro v H2 ⟨φ2,pv,h2,p2,t2,c8,rv3,q3⟩;cases pv with
 |non=>cases rv3;exact⟨rfl,q3.val c8 (wc.mono p2 t2)⟩
 |_=>exact q3.elim
theorem Kz{k:Nat}{f:Addr}{fn:Fn}{p:Pos}(hc:C.cl cn=some ca)(M:Mk C.K ca f)(F:cE X.prog X.w C.K X.mg X.base CX0 j f fd ps (spM C (n+1) fn))(hm:X.mg x=some (.ref ca))(bd:Binds C.K fd ps [])(ha:SA C k X (e::es) ms)(hj:j+1<=k:=by decide)(hg:Gl X x:=by rfl)(b0:(x == ("__debug__" : Str))=false:=by decide)(he:P3 (e::es) X.env=(false,eval e X.env)::P3 es X.env:=by rfl)(bg:(backTo pos (P3 es X.env)).any (·.1)=false:=by rfl):
  SE C k X (.Call (.Name x p) (e::es) [] pos) (gA cn n fn ms):=λc=>by
 have M':Mk X.K ca f:=by rw[c.K];exact M
 have F':cE X.prog X.w X.K X.mg X.base CX0 j f fd ps (spM C (n+1) fn):=by rw[c.K];exact F
 have m6:Binds X.K fd ps []:=by rw[c.K];exact bd
 refine(GM M' F' (c.room.mono hj) hg hm m6 .nil A6 (ha c) b0 he bg).imp λσ H Q h=>?_;obtain⟨φ,δ,h,rh,re,po⟩:=h;refine⟨φ,δ,h,rh,re,(postA.bind po).imp ?_⟩;rintro vs H1 ⟨φ1,zs,h1,p1,t1,aa,ab,q1⟩;exact Ck hc aa ab q1
theorem HQ{k:Nat}{f:Addr}{fn:Fn}{p:Pos}(hc:C.cl cn=some ca)(M:Mk C.K ca f)(F:cE X.prog X.w C.K X.mg X.base CX0 j f fd ps (spM C (0+1) fn))(hm:X.mg x=some (.ref ca))(bd:Binds C.K fd ps [])(hj:j+1<=k:=by decide)(hg:Gl X x:=by rfl)(b0:(x == ("__debug__" : Str))=false:=by decide):SE C k X (.Call (.Name x p) [] [] pos) (gA cn 0 fn aC):=λc=>by
 have M':Mk X.K ca f:=by rw[c.K];exact M
 have F':cE X.prog X.w X.K X.mg X.base CX0 j f fd ps (spM C (0+1) fn):=by rw[c.K];exact F
 have m6:Binds X.K fd ps []:=by rw[c.K];exact bd
 refine(Ed M' F' (c.room.mono hj) hg hm m6 .nil A6 b0).imp λσ H Q h=>?_;obtain⟨φ,δ,h,rh,re,po⟩:=h;exact Ck (zs:=[]) hc rh trivial po
def gG(x y v:PV)(h:PH):Option PH:=match x,y with
 |.ref n,.int i=>match cQ h n with
  |some xs=>match ixN xs.length i with
   |some j=>some (h.set n (.lst (xs.set j v)))
   |none=>none
  |none=>tX x y v h
 |_,_=>tX x y v h
def gW(mv mo mi:Me):Ms:=λδ h=>(mv δ h).fl λv h1=>(mo δ h1).fl λx h2=>(mi δ h2).fl λy h3=>match gG x y v h3 with
 |some h4=>.nx δ h4
 |none=>.bad
set_option tactic.hygienic true in
theorem Bq{k:Nat}{h':PH}{pv:PV}{x:V}(c:Cxt C k X)(rh:RH C φ H h)(rx:RV C φ H px x)(ry:RV C φ H py y)(rv:RV C φ H pv v)(e:gG px py pv h=some h'){Q:Unit->Shared->Prop}(I:Inv X pins σ H s)(k6:RelV x xu)(cm:RelV y yu)(jw:RelV v vu)(q:∀s' H',Inv X pins σ H' s'->Kp H H'->RH C φ H' h'->Q () s'):wpAny (model X.prog X.w) X.A (setItem xu yu vu) Q X.xe s:=by
 unfold gG at e;split at e
 ·rename_i n i;split at e
  ·rename_i xs el;split at e
   ·rename_i j ej;cases e
    obtain⟨a,rfl,ha⟩:=rx;cases ry
    obtain⟨ws,hH,cq⟩:=rh.at' n a _ ha (fV el);refine thn (set_list pins s σ H (.ref a) (.int i) v xu yu vu (λH'=>H'=upd H a (.lst (ws.set j v))) I k6 cm jw ⟨a,ws,i,j,rfl,rfl,hH,by rw[<-cq.length];exact ej,rfl⟩) ?_;rintro _ s' ⟨H',I',rfl⟩;refine q s' _ I' (Kp.lst hH) (rh.write ha (by rw[hH];trivial) ⟨_,aJ,(RVs.set rv j cq).mono PF (Kp.lst hH)⟩)
   ·cases e
  ·exact wU c rh rx ry rv e I k6 cm jw q
 ·exact wU c rh rx ry rv e I k6 cm jw q
theorem KA{k:Nat}{o i:Expr}{mi:Me}(hv:SE C k X value mv)(ho:SE C k X o mo)(hi:SE C k X i mi)(hs:S8 value (some (.Subscript o i pos')) pos.line X.env=pure false:=by rfl):
  SSt C k X (.Assign [.Subscript o i pos'] value pos) (gW mv mo mi):=λc pins s σ H D I ⟨φ,δ,h,rh,re,p⟩=>by
 refine wpAny_Assign_Subscript (thn (hv c pins s σ H _ I ⟨φ,δ,h,rh,re,post.fl p⟩) ?_) hs;rintro vu s1 ⟨v,H1,I1,jw,φ1,pv,h1,p1,t1,aa,ab,q1⟩;refine thn (ho c pins s1 σ H1 _ I1 ⟨φ1,δ,h1,aa,re.mono p1 t1,post.fl q1⟩) ?_;rintro xu s2 ⟨x,H2,I2,k6,φ2,px,h2,p2,t2,ah,b8,q2⟩;refine thn (hi c pins s2 σ H2 _ I2 ⟨φ2,δ,h2,ah,(re.mono p1 t1).mono p2 t2,post.fl q2⟩) ?_;rintro yu s3 ⟨y,H3,I3,cm,φ3,py,h3,p3,t3,c8,rv3,q3⟩;cases e:gG px py pv h3 with
 |none=>rw[e]at q3;exact q3.elim
 |some h4=>
  rw[e]at q3;exact Bq c c8 (b8.mono p3 t3) rv3 ((ab.mono p2 t2).mono p3 t3) e I3 k6 cm jw λs' H' I' kp bt=>⟨σ,H',I',q3 φ3 σ H' PF kp bt ((((re.mono p1 t1).mono p2 t2).mono p3 t3).mono PF kp)⟩
theorem oY{fs:List (Str×PV)}(e:h[n]?=some (.ins c fs)):fZ (.ref n) h=some (n,c,fs):=by simp[fZ,e]
theorem dZ{f:Str}{fs:List (Str×PV)}(e:h[n]?=some (.ins c fs))(l:fs.lookup f=some p):bL f (.ref n) h=.ok p h:=by simp[bL,oY e,l]
theorem cW{f:Str}{fs:List (Str×PV)}(e:h[n]?=some (.ins c fs))(l:fs.length<1000):lV f (.ref n) p h=some (h.set n (.ins c (vJ f p fs))):=by simp[lV,oY e,l]
@[simp]theorem Fm{E:FE}{f:Str}:(cL f mo mv δ h).W E=(mv δ h).W λy h1=>(mo δ h1).W λx h2=>∃h3,lV f x y h2=some h3/\E.nx δ h3:=by
 unfold cL;rw[Dp]
 congr 1
 funext y h1
 rw[Dp]
 congr 1
 funext x h2
 cases e:lV f x y h2 <;> simp
@[simp]theorem iH{f:Fn}:gA cn n f ms δ h=(ms δ h).bind λps h1=>if ps.length=n then(f (.ref h1.length::ps) (h1++[.ins cn []])).bind λv h2=>(match v with|.non=>.ok (.ref h1.length) h2|_=>.bad) else .bad:=(rfl)
variable{mm:Str}
theorem cB{k:Nat}{fs:List (Str×PV)}{f:Fn}(e:mo δ h=.ok (.ref k) h1)(g:h1[k]?=some (.ins c fs))(t:tb c=some f)(l:fs.lookup mm=none):
  fD mm n tb mo ms δ h=(ms δ h1).bind λps h2=>if ps.length=n then f (.ref k::ps) h2 else .bad:=by
 unfold fD;rw[e,Rs.bind_ok,oY g];simp only[t,l]
@[simp]theorem Ou{E:FE}{mi:Me}:(gW mv mo mi δ h).W E=(mv δ h).W λv h1=>(mo δ h1).W λx h2=>(mi δ h2).W λy h3=>∃h4,gG x y v h3=some h4/\E.nx δ h4:=by
 unfold gW;rw[Dp]
 congr 1
 funext v h1
 rw[Dp]
 congr 1
 funext x h2
 rw[Dp]
 congr 1
 funext y h3
 cases e:gG x y v h3 <;> simp
theorem boot_reversed:RT "reversed" = some (.type "reversed"):=by first|rfl|decide +kernel|kernel_rfl
def oZ:PV->PH->Rs PV:=λx h=>match iF x h with
 |some xs=>.ok (.ref h.length) (h++[.lst xs.reverse])
 |none=>.bad
theorem DD(h:ItemsOf (EB items) acc items.size):acc.toList=items.toList.reverse:=by
 apply Ro;intro i
 by_cases hi:i<acc.size
 ·have e1:acc[i]?=some acc[i]:=by simp[hi]
  have h2:=h.2 i _ e1;have ph:i<items.size:=by rw[<-h.1];exact hi
  rw[R0,e1,List.getElem?_reverse (by simpa using ph),Sg,R0]
  exact h2.symm
 ·have ay:¬ i<items.size:=by rw[<-h.1];exact hi
  rw[R0,Q5 (by omega),Rz (by simp;omega)]
theorem DE{k:Nat}{p:Pos}{di:Pos}(he:SE C k X e me)(yr:("list" : Str)∈C.bs)(Io:("reversed" : Str)∈C.bs)(yw:Gl X "list" := by rfl)(yd:Gl X "reversed" := by rfl)(e7:P3 [e] X.env=(false,eval e X.env)::P3 [] X.env:=by rfl)(bg:(backTo di (P3 [] X.env)).any (·.1)=false:=by rfl)(mn:P3 [.Call (.Name "reversed" p2) [e] [] di] X.env=(false,eval (.Call (.Name "reversed" p2) [e] [] di) X.env)::P3 [] X.env:=by rfl)(qt:(backTo pos (P3 [] X.env)).any (·.1)=false:=by rfl):
  SE C k X (.Call (.Name "list" p) [.Call (.Name "reversed" p2) [e] [] di] [] pos) (mUn oZ me):=λc pins s σ H Q I h=>by
 refine QT (jW I yw (c.bn _ yr) PyProof.Rows.Boot.«list» ?_ (by decide) (by decide));refine RP ?_ mn qt;rw[mn]
 show wpAny _ _ (spliced ((false,eval (.Call (.Name "reversed" p2) [e] [] di) X.env)::backTo pos (P3 [] X.env))) _ _ s
 refine Calls.spliced_cons ?_;refine QT (jW I yd (c.bn _ Io) boot_reversed ?_ (by decide) (by decide));obtain⟨φ,δ,h,rh,re,po⟩:=h;refine RP (thn (rY (he c) xS e7 di pins s σ H (λvs H1=>∃x,vs=[x]/\r1 C oZ x H1 Q) I ⟨φ,δ,h,rh,re,(post.bind po).imp ?_⟩) λus s1 hh=>?_) e7 bg
 ·rintro v H1 ⟨φ1,x,h1,p1,t1,aa,ab,q1⟩;exact⟨v,rfl,φ1,h1,x,aa,ab,q1⟩
 obtain⟨vs,H1,I1,rv,x,rfl,φ1,h1,px,aa,rx,q1⟩:=hh;obtain⟨u,rfl,ru⟩:=vals1 rv;unfold oZ at q1;cases es:iF px h1 with
 |none=>rw[es]at q1;exact q1.elim
 |some xs=>
  rw[es]at q1;obtain⟨a,ws,rfl,sa,ra⟩:=oJ aa rx es;cases ru
  have nq:SqL X.K H1 a ws:=by rw[c.K];exact sa
  obtain⟨its,cq,pl,hz⟩:=I1.list nq;refine call_reversed_list pl.isList ?_
  show wpAny _ _ (spliced (backTo pos (P3 [] X.env))) _ _ _
  refine Calls.spliced_nil ?_;have hsz:its.toArray.size=its.length:=by simp
  have o9:a<s1.heap.objs.size:=let ⟨o,ho,_⟩:=pl.isList;PU ho;have hit:(s1.heap.push (revObj a ((its.toArray.size:Int)-1))).IsRevIter s1.heap.objs.size a ((its.toArray.size:Int)-1):=⟨_,PR _ rfl,rfl,rfl⟩;have ix:(s1.heap.push (revObj a ((its.toArray.size:Int)-1))).IsList a its.toArray:=let ⟨o,ho,r⟩:=pl.isList;⟨o,PB _ ho,r⟩;refine vF (s:={ s1 with heap:=s1.heap.push (revObj a ((its.toArray.size:Int)-1)) }) (I.ok.hd c.calm) hit ix (P9 o9) (by rw[hsz,<-cq.length];exact hz) λh' tk b6 c' hk hS az=>?_;have ea:=DD az;have fr:s1.heap.objs.size<=(s1.heap.push (revObj a ((its.toArray.size:Int)-1))).objs.size:=by rw[Sl];exact Q9 _
  have kp:∀b o,s1.heap.get? b=some o->h'.get? b=some o:=λb o e=>hk b o (P9 (PU e)) (PB _ e);have I2:=I1.laid (a:=(s1.heap.push (revObj a ((its.toArray.size:Int)-1))).objs.size) (t':=tk) (o:=.lst ws.reverse) kp fr ⟨by rw[List.length_reverse];exact hz,b6.toList,c',by
   rw[ea];have hr:∀{vs:List V}{us:List Value},aI vs us->aI vs.reverse us.reverse:=by
    intro vs us r
    induction r with
    |nil=>exact .nil
    |cons a t ih=>simp only[List.reverse_cons];exact aI.append ih (.cons a .nil)
   simpa using hr cq,by rw[Array.toArray_toList];exact hS⟩
  exact⟨.ref (s1.heap.push (revObj a ((its.toArray.size:Int)-1))).objs.size,_,I2,rfl,q1.lnew aa ra.reverse (I1.hok.fresh fr)⟩
theorem DF(e:h[n]?=some (.lst xs)):oZ (.ref n) h=.ok (.ref h.length) (h++[.lst xs.reverse]):=by simp[oZ,iF,aO,e]
theorem DG{es:Array RU}(hT:s.TypeIs (.ref dc) "dict")(hd:(dc == QG)=false)(h1:s.heap.get? dc=some oc)(h2:oc.data=.dict es ep)(q:Q (.ref s.heap.objs.size) { s with heap:=s.heap.push { cls:=.type "dict_keyiterator",data:=.fields #[.ref dc,.int 0 0,.int es.size 0,.int ep 0] } }):wpAny (model prog w) A (pyIter (.ref dc)) Q E s:=by
 refine wpAny_pyIter_slot hT F.slot_dict_iter (Qy F.slot_dict_iter hT F.entry_dict_iter ?_ (F.args_dict_iter_1 _));unfold Builtin.«dict.__iter__»;refine Pi ?_;unfold Builtin.Dict.dictSlotNone;refine Pi (RY hT ?_)
 show wpAny _ _ (pure (Qk dc)) _ _ s
 refine Px ?_
 show wpAny _ _ (Rx dc >>= _) _ _ s
 unfold Rx;rw[if_neg (by rw[hd];exact PY)];refine Pi (Px ?_);refine Pi (QN h1 h2 ?_);refine Pi (Rw h1 h2 ?_);refine Pi (Qm (Px ⟨_,rfl,"dict_keyiterator",_,⟨_,PR _ rfl,rfl⟩,Rf.lookup,?_⟩));simpa[rawInt] using q
theorem Fo{es:Array RU}{Q:Option Value->Shared->Prop}(hI:s.heap.IsKeyIter it dc i es.size ep)(h1:s.heap.get? dc=some oc)(h2:oc.data=.dict es ep)(ao:i<es.size)(q:∀h',h'.IsKeyIter it dc (i+1) es.size ep->Ra it s.heap h'->Q (some es[i].key) { s with heap:=h' }):wpAny (model prog w) A (pyNext (.ref it)) Q E s:=by
 obtain⟨oi,g1,g2,g3⟩:=id hI;unfold pyNext;refine Pi (SK (QH (name:=Pz "__next__") hI.typeIs Rf (Qy Rf hI.typeIs F.entry_dict_keyiterator_next ?_ (F.args_dict_keyiterator_next_1 _))));refine Pi (Px (Pi (Pi ?_)))
 first|refine Pi (RG hI.typeIs (Px ?_))|refine Pi (Sb hI.typeIs (Px ?_))
 refine Pi (SV g1 g3 ?_);rw[show Qs "dict_keyiterator" = false by decide];simp only[Qh,if_false]
 show wpAny _ _ (if(Qk dc == P7)=true then _ else _) _ _ s
 rw[if_neg (show ¬ ((Qk dc == P7)=true) from PY)]
 refine Pi (Px (Pi (QN h1 h2 ?_)));rw[if_neg (show ¬ _ by simp)];refine Pi (Px (Pi (Rw h1 h2 ?_)));rw[if_neg (show ¬ _ by simp)];refine Px ?_;simp only[show ¬ ((i:Int)<0) by omega,if_false,Sa,Q6 ao];refine Pi ?_
 first|refine Pi (RG hI.typeIs (Px ?_))|refine Pi (Sb hI.typeIs (Px ?_))
 refine Pi (wpAny_isOneOf_keyiter hI.typeIs (show wpAny _ _ (setField (.ref it) 1 (rawInt ((i:Int)+1)) >>= _) _ _ s from Pi (Sn g1 g3 (by simp) ?_)))
 have iz:(s.heap.update it (RK (·.setIfInBounds 1 (rawInt ((i:Int)+1))))).IsKeyIter it dc (i+1) es.size ep:=
  ⟨_,QX _ g1 (SC (RZ g3 _)),(Obj.cls_mapFields ..).trans g2,by rw[RZ g3];simp[rawInt]⟩
 have ka:({ s with heap:=s.heap.update it (RK (·.setIfInBounds 1 (rawInt ((i:Int)+1)))) }:Shared).TypeIs (.ref it) "dict_keyiterator" := iz.typeIs;refine Pi (QZ (Pi (wpAny_isOneOf_keyiter ka ?_)))
 show wpAny _ _ (pure es[i].key) _ _ _
 exact Px (Px ⟨_,rfl,Px (q _ iz (Qg ..))⟩)
theorem Fp{es:Array RU}{Q:Option Value->Shared->Prop}(hh:A.handled=none)(hI:s.heap.IsKeyIter it dc i es.size ep)(h1:s.heap.get? dc=some oc)(h2:oc.data=.dict es ep)(ju:es.size<=i)(q:∀h',Heap.ExtBut it s.heap h'->Q none { s with heap:=h' }):wpAny (model prog w) A (pyNext (.ref it)) Q E s:=by
 obtain⟨oi,g1,g2,g3⟩:=id hI;unfold pyNext;refine Pi (SK (QH (name:=Pz "__next__") hI.typeIs Rf (Qy Rf hI.typeIs F.entry_dict_keyiterator_next ?_ (F.args_dict_keyiterator_next_1 _))));refine Pi (Px (Pi (Pi ?_)))
 first|refine Pi (RG hI.typeIs (Px ?_))|refine Pi (Sb hI.typeIs (Px ?_))
 refine Pi (SV g1 g3 ?_);rw[show Qs "dict_keyiterator" = false by decide];simp only[Qh,if_false]
 show wpAny _ _ (if(Qk dc == P7)=true then _ else _) _ _ s
 rw[if_neg (show ¬ ((Qk dc == P7)=true) from PY)]
 refine Pi (Px (Pi (QN h1 h2 ?_)));rw[if_neg (show ¬ _ by simp)];refine Pi (Px (Pi (Rw h1 h2 ?_)));rw[if_neg (show ¬ _ by simp)];refine Px ?_;simp only[show ¬ ((i:Int)<0) by omega,if_false,Sa,Q5 ju];refine Pi ?_
 first|refine Pi (RG hI.typeIs (Px ?_))|refine Pi (Sb hI.typeIs (Px ?_))
 refine(show wpAny _ _ (setField (.ref it) 0 .none >>= _) _ _ s from Pi (Sn g1 g3 (by simp) ?_))
 refine(show wpAny _ _ (newExc (.type "StopIteration") [] >>= _) _ _ _ from Pi ?_);simp only[newExc,newTuple]
 refine Pi (Qm (Pi (m:=SX _ _) (wpAny_of_eq (a:=P7) (by first|rfl|(simp only[SX];rfl)) (Qm ?_ (by size_fits)))) (by size_fits))
 simp only[raiseNew];refine Pi (wpAny_handled ?_);rw[show A.in1.handled=none from hh]
 refine Pi (Px (wpAny_throw ?_));refine Pi (S0 (T:="StopIteration") (b:=true) ⟨_,PR _ rfl,rfl⟩ isSubtype_stop ?_);exact Px (q _ (((Qg ..).extBut.push _).push _))
section
variable{k:Nat}{o:Obj}{its:Array Value}{ps:List PV}
def IY:PV->Option V
 |.non=>some .non
 |.bl b=>some (.bl b)
 |.int i=>some (.int i)
 |.str z=>some (.str z)
 |_=>none
def zA:List PV->Option (List V)
 |[]=>some []
 |p::r=>match IY p,zA r with
  |some v,some vs=>some (v::vs)
  |_,_=>none
theorem HS(e:IY p=some v):RV C φ H p v:=by
 cases p <;> first|(cases e;rfl)|cases e
set_option tactic.hygienic true in
theorem AC{φ:List Addr}{H:Hp}:∀{ps:List PV}{vs:List V},zA ps=some vs->RVs C φ H ps vs
 |[],vs,e=>by cases e;trivial
 |p::ps,vs,e=>by
  unfold zA at e;split at e
  ·rename_i v ws e1 e2;cases e
   exact⟨HS e1,AC e2⟩
  ·cases e
def N1(K:Py)(a:Addr)(ps:List PV):Prop:=∃(o:Obj)(its:Array Value)(n:Nat)(vs:List V),K.lookup a=some o/\o.cls=.type "tuple" /\ o.data=.seq its n/\its.size<=PP/\aI vs its.toList/\o.dict=none/\zA ps=some vs
theorem KB(hm:X.mg x=some (.ref a))(g:N1 C.K a ps)(hg:Gl X x:=by rfl)(hd:(x == ("__debug__" : Str))=false:=by decide):SE C k X (.Name x pos) (mC (.tup ps)):=λc=>
 (BS (v:=.ref a) hg hm rfl hd).imp λσ H Q h=>by
  obtain⟨φ,δ,h,rh,re,p⟩:=h;obtain⟨o,its,n,vs,g1,g2,g3,g4,g5,g6,g7⟩:=g;exact p φ (.ref a) H PF (Kp.refl _) rh ⟨a,vs,rfl,.inr ⟨o,its,n,g1,g2,g3,g4,g5,g6⟩,AC g7⟩
end
theorem HU(e:bI h n=some kvs)(hk:(PV.tup xs).ky 6=true)(hl:kvs.length<16777216):gG (.ref n) (.tup xs) z h=some (h.set n (.dD (fB kvs (.tup xs) z))):=by
 show tX (.ref n) (.tup xs) z h=_
 exact Fh e hk hl
theorem Cm{kvs:List (Key×PV)}(e:h[n]?=some (.dK kvs))(hl:kvs.length<16777216):gG (.ref n) (.str x) z h=some (h.set n (.dK (fB kvs (.inr x) z))):=by
 show tX (.ref n) (.str x) z h=_
 exact HK e hl
def Fq:HO->Prop
 |.tup _=>False
 |.own _=>False
 |.tbl _=>False
 |_=>True
theorem Inv.swap{d:Addr}{u u':HO}(I:Inv X pins σ H s)(hd:H d=some u)(hu:Fq u)(hz:∀o z,X.H₀ d≠some (.frz o z))(new:bC X.prog X.w (upd H d u') s.heap d u'):Inv X pins σ (upd H d u') s:=by
 have nn:∀b,H b=none->b≠d:=λb n z=>by rw[z,hd]at n;cases n
 have nt:∀b xs,H b=some (.tup xs)->b≠d:=λb xs n z=>by rw[z,hd]at n;cases n;exact hu
 have no:∀b y,H b=some (.own y)->b≠d:=λb xs n z=>by rw[z,hd]at n;cases n;exact hu
 have nb:∀b y,H b=some (.tbl y)->b≠d:=λb xs n z=>by rw[z,hd]at n;cases n;exact hu
 refine⟨I.ok,I.os,I.bare,⟨I.base.keep,I.base.slot,λb o e n hx=>?_,I.base.there,λb xs e=>?_,λb o xs e=>?_,λb ps e=>?_⟩,I.loc,I.cell,?_,λx c e=>?_,λp hp=>?_,λb o e=>?_,I.len⟩
 ·have:=I.base.free b o e n hx;rw[aH (nn b this)];exact this
 ·have:=I.base.tups b xs e;rw[aH (nt b xs this)];exact this
 ·have:=I.base.frzs b o xs e;have ne:b≠d:=λz=>hz o xs (z▸e);rw[aH ne];exact this
 ·obtain⟨m,e1⟩:=I.base.tbls b ps e;exact⟨m,by rw[aH (nb b _ e1)];exact e1⟩
 ·rw[aH (nn _ I.free)];exact I.free
 ·have:=I.freeC x c e;rw[aH (nn _ this)];exact this
 ·obtain⟨e,n,r⟩:=I.pin p hp;exact⟨e,by rw[aH (nn _ n)];exact n,r⟩
 ·by_cases hb:b=d
  ·subst hb;rw[aJ]at e;cases e;exact new
  ·rw[aH hb]at e;exact(I.hok b o e).stay (λc v _ q=>q) (λc q=>by rw[aH (no c b q)];exact q) λc xs q=>by rw[aH (nt c xs q)];exact q
theorem Inv.nofrz{d:Addr}(I:Inv X pins σ H s)(hd:∀o z,H d≠some (.frz o z)):∀o z,X.H₀ d≠some (.frz o z):=λo z e=>hd o z (I.base.frzs d o z e)
theorem Inv.freeze{d:Addr}{u:HO}(I:Inv X pins σ H s)(hd:H d=some u)(hu:Fq u)(hf:∀o z,u≠.frz o z)(ho:s.heap.get? d=some oc):Inv X pins σ (upd H d (.frz oc u)) s:=by
 have nt:∀b xs,H b=some (.tup xs)->b≠d:=λb xs n z=>by rw[z,hd]at n;cases n;exact hu
 have no:∀b y,H b=some (.own y)->b≠d:=λb xs n z=>by rw[z,hd]at n;cases n;exact hu
 refine I.swap hd hu (I.nofrz λo z e=>?_) ⟨ho,(I.hok d u hd).stay (λc v _ q=>q) (λc q=>by rw[aH (no c d q)];exact q) λc xs q=>by rw[aH (nt c xs q)];exact q⟩;rw[hd]at e;exact hf o z (P4 e)
theorem Inv.thaw{d:Addr}{u:HO}(I:Inv X pins σ H s)(hd:H d=some (.frz oc u))(hz:∀o z,X.H₀ d≠some (.frz o z)):Inv X pins σ (upd H d u) s:=by
 have nt:∀b xs,H b=some (.tup xs)->b≠d:=λb xs n z=>by rw[z,hd]at n;cases n
 have no:∀b y,H b=some (.own y)->b≠d:=λb xs n z=>by rw[z,hd]at n;cases n
 obtain⟨_,q⟩:=I.hok d _ hd;exact I.swap hd trivial hz (q.stay (λc v _ q=>q) (λc q=>by rw[aH (no c d q)];exact q) λc xs q=>by rw[aH (nt c xs q)];exact q)
def ItI(dc:Addr)(oc:Obj)(u:HO)(ks:List (V×V)):It:=
 ⟨λi H=>H dc=some (.frz oc u)/\i<ks.length,λi H x H'=>∃t kv,H t=none/\ks[i]?=some kv/\x=.ref t/\H'=upd H t (.tup [kv.1,kv.2]),λi H=>H dc=some (.frz oc u)/\ks.length<=i⟩
def ItK(dc:Addr)(oc:Obj)(u:HO)(ks:List V):It:=
 ⟨λi H=>H dc=some (.frz oc u)/\i<ks.length,λi H x H'=>H'=H/\ks[i]?=some x,λi H=>H dc=some (.frz oc u)/\ks.length<=i⟩
variable{elts:List Expr}{x1:Nat}
theorem Br(it dc:Addr)(oc:Obj)(u:HO)(es:Array RU)(ep:Nat)(h2:oc.data=.dict es ep)(ks:List (V×V))(hl:ks.length=es.size)(hk:∀(i:Nat)(hi:i<es.size),∃kv,ks[i]?=some kv/\RelV kv.1 es[i].key/\RelV kv.2 es[i].val):Turn P w K (.Tuple elts x1 pos) (ItI dc oc u ks) [it] it (λi h=>∃ok ov,IsItemIter h it dc i es.size ep ok ov) where
 mem:=by simp
 obj:=λi h ⟨ok,ov,st⟩ b hb=>by
  have e:b=it:=by simpa using hb
  subst e;exact⟨_,st,λv z=>by cases z⟩
 keep:=λi h h' ⟨ok,ov,st⟩ k=>⟨ok,ov,k it (by simp) _ st⟩
 item:=by
  intro X hP hw hK hc i pins s σ H E I hf ⟨ok,ov,st⟩ ⟨hg,hi⟩;subst hP hw hK;have ay:i<es.size:=by omega
  obtain⟨kv,gu,r1,r2⟩:=hk i ay;obtain⟨f0,f1,f2,f3,f4,f5⟩:=hf it (by simp);have ij:s.heap.get? dc=some oc:=(I.hok dc _ hg).1;refine next_item st ij h2 ay λh' out gt kp=>⟨_,rfl,?_⟩;refine wpAny_letOwnedTupleGo_items (s:={ s with heap:=h' }) out λjo hI same=>?_;have fr:H s.heap.objs.size=none:=I.hok.fresh (PD _);have ne:s.heap.objs.size≠it:=Sd (PU st);have yj:jo.get? s.heap.objs.size=some { cls:=.type "tuple",data:=.seq #[es[i].key,es[i].val] }:=(same.2 _ ne).trans gt;have n8:∀(b:Addr)(o:Obj),b≠it->s.heap.get? b=some o->jo.get? b=some o:=λb o hb e=>(same.2 b hb).trans (kp b o hb e);have ou:∀b u,H b=some u->b≠it:=λb u e z=>by rw[z,f0]at e;cases e
  have n6:∀b u,H b=some u->b≠s.heap.objs.size:=λb u e z=>by rw[z,fr]at e;cases e
  refine⟨.ref s.heap.objs.size,upd H s.heap.objs.size (.tup [kv.1,kv.2]),?_,rfl,⟨_,kv,fr,gu,rfl,rfl⟩,⟨_,_,hI⟩,λb hb=>?_⟩
  ·refine Inv.step (s:=s) (h':=jo) (H:=H) (g':=s.gens) (d':=s.drawn) (t':=s.toks) (ch:=[it]) I (λb hb=>?_) (λb o _ _ hc e _=>n8 b o (λz=>hc (by simp[z])) e) (λb o _ _ hc e _=>⟨o.slots,n8 b o (λz=>hc (by simp[z])) e⟩) (λb o hc e n=>?_)
    (λb o hc e=>⟨o,n8 b o (λz=>hc (by simp[z])) e⟩) (λb xs e=>by rw[aH (n6 _ _ e)];exact e) (λb o u e=>by rw[aH (n6 _ _ e)];exact e) (λb ps e=>⟨#[],by rw[aH (n6 _ _ e),e];simp⟩) (λm hm=>?_) (λb u e=>?_) I.bare
   ·have e:b=it:=by simpa using hb
    subst e;exact⟨f3,f1,f4,f5⟩
   ·rw[aH (P9 (PU e))];exact n
   ·obtain⟨o,es,ep,ho,r⟩:=hm;exact⟨o,es,ep,n8 _ o (QS f1) ho,r⟩
   ·by_cases hb:b=s.heap.objs.size
    ·subst hb;rw[aJ]at e;cases e
     exact⟨by show 2<=PP;rw[iU];decide,[es[i].key,es[i].val],.cons r1 (.cons r2 .nil),_,yj,rfl,⟨_,rfl⟩,rfl⟩
    ·rw[aH hb]at e;refine(I.hok b u e).stay (λc v hc q=>n8 c v ?_ q) (λc q=>by rw[aH (n6 _ _ q)];exact q) λc xs q=>by rw[aH (n6 _ _ q)];exact q
     rcases hc with z|z
     ·rw[z];exact ou b u e
     ·exact ou c _ z
  ·have e:b=it:=by simpa using hb
   subst e;rw[aH (QS ne)];exact f0
 done:=by
  intro X hP hw hK hc i pins s σ H E I hf ⟨ok,ov,st⟩ ⟨hg,hi⟩;subst hP hw hK;obtain⟨f0,f1,f2,f3,f4,f5⟩:=hf it (by simp);have ij:s.heap.get? dc=some oc:=(I.hok dc _ hg).1;exact Dc (I.ok.hd hc) st ij h2 (by omega) λh' eb=>⟨rfl,I.turned (t':=s.toks) (λb o hb e=>eb b o hb e) f0 f1 f3 f4 f5⟩
 self:=λ_ _ _ _ _ ⟨_,_,st⟩ h=>Bb st h
theorem DH(it dc:Addr)(oc:Obj)(u:HO)(es:Array RU)(ep:Nat)(h2:oc.data=.dict es ep)(ks:List V)(hl:ks.length=es.size)(hk:∀(i:Nat)(hi:i<es.size),∃kv,ks[i]?=some kv/\RelV kv es[i].key):Turn P w K tg (ItK dc oc u ks) [it] it (λi h=>h.IsKeyIter it dc i es.size ep) where
 mem:=by simp
 obj:=λi h st b hb=>by
  have e:b=it:=by simpa using hb
  subst e;obtain⟨o,e,c,d⟩:=st;exact⟨o,e,λv z=>by rw[d]at z;cases z⟩
 keep:=λi h h' st k=>st.at λo e=>k it (by simp) o e
 item:=by
  intro X hP hw hK hc i pins s σ H E I hf st ⟨hg,hi⟩;subst hP hw hK;have ay:i<es.size:=by omega
  obtain⟨kv,gu,r1⟩:=hk i ay;obtain⟨f0,f1,f2,f3,f4,f5⟩:=hf it (by simp);have ij:s.heap.get? dc=some oc:=(I.hok dc _ hg).1;refine Fo st ij h2 ay λh' bx sb=>?_;have I1:Inv X pins σ H { s with heap:=h' }:=I.turned (t':=s.toks) (λb o hb e=>(sb.2 b hb).trans e) f0 f1 f3 f4 f5;obtain⟨o,e,c,d⟩:=id bx;exact⟨_,rfl,A0 (s:={ s with heap:=h' }) e c d (by decide) ⟨kv,H,I1,r1,⟨rfl,gu⟩,bx,λb hb=>(hf b hb).1⟩⟩
 done:=by
  intro X hP hw hK hc i pins s σ H E I hf st ⟨hg,hi⟩;subst hP hw hK;obtain⟨f0,f1,f2,f3,f4,f5⟩:=hf it (by simp);have ij:s.heap.get? dc=some oc:=(I.hok dc _ hg).1;exact Fp (I.ok.hd hc) st ij h2 (by omega) λh' eb=>⟨rfl,I.turned (t':=s.toks) (λb o hb e=>eb b o hb e) f0 f1 f3 f4 f5⟩
 self:=λ_ _ _ _ _ st h=>wpAny_pyIter_keyiter st h
def mR:MO->Option (List PV)
 |.dK kvs=>some (kvs.map λkv=>.tup [kP kv.1,kv.2])
 |.dD kvs=>some (kvs.map λkv=>.tup [kv.1,kv.2])
 |_=>none
def AD:MO->Option (List PV)
 |.dK kvs=>some (kvs.map λkv=>kP kv.1)
 |.dD kvs=>some (kvs.map (·.1))
 |_=>none
def uF:Option MO->Bool
 |some (.dK _)=>true
 |some (.dD _)=>true
 |_=>false
def wkI(b:Bool)(x:PV)(h:PH):Option (Nat×MO×List PV):=match x with
 |.ref n=>match h[n]? with
  |some (.vw 0 d)=>if b then(h[d]?).bind λo=>(mR o).map λxs=>(d,o,xs) else none
  |some o=>(AD o).map λxs=>(n,o,xs)
  |none=>none
 |_=>none
def uG(b:Bool)(m:Me):Mi:=λδ h=>(m δ h).bind λx h1=>match wkI b x h1 with
 |some (d,o,xs)=>.ok ⟨xs,λ_=>true⟩ (h1.set d (.fz o))
 |none=>.bad
theorem KC{k:Key}{v:Value}(h:qV k v=true):RelV (kV k) v:=by
 rcases aY h with⟨i,t,rfl,rfl⟩|⟨x,t,rfl,rfl⟩
 ·exact⟨t,rfl⟩
 ·exact⟨t,rfl⟩
theorem qD{α β:Type}{F:α->β->Prop}:∀{l:List α}{m:List β},Paired F l m->∀{i:Nat}{a:α},l[i]?=some a->∃b,m[i]?=some b/\F a b
 |_,_,.nil,i,a,e=>by simp at e
 |_,_,.cons (a:=x) (b:=y) r t,0,a,e=>by
  have:x=a:=by simpa using e
  subst this;exact⟨y,rfl,r⟩
 |_,_,.cons r t,i+1,a,e=>by
  obtain⟨b,h1,h2⟩:=qD t (i:=i) (a:=a) (by simpa using e)
  exact⟨b,by simpa using h1,h2⟩
theorem mS{α β:Type}{F:α->β->Prop}:∀{l:List α}{m:List β},Paired F l m->∀{i:Nat}{b:β},m[i]?=some b->∃a,l[i]?=some a/\F a b
 |_,_,.nil,i,a,e=>by simp at e
 |_,_,.cons (a:=x) (b:=y) r t,0,b,e=>by
  have:y=b:=by simpa using e
  subst this;exact⟨x,rfl,r⟩
 |_,_,.cons r t,i+1,b,e=>by
  obtain⟨a,h1,h2⟩:=mS t (i:=i) (b:=b) (by simpa using e)
  exact⟨a,by simpa using h1,h2⟩
theorem Cn(a:Key):RV C φ H (kP a) (kV a):=by cases a <;> rfl
theorem Fs{kvs:List (Key×PV)}{ks:List (Key×V)}(rk:RKv C φ H kvs ks):RVs C φ H (kvs.map λkv=>kP kv.1) ((ks.map λq=>(kV q.1,q.2)).map (·.1)):=by
 unfold RKv at rk
 induction rk with
 |nil=>trivial
 | @cons p q ps qs e t ih=>exact⟨by show RV C φ H (kP p.1) (kV q.1);rw[e.1];exact Cn q.1,ih⟩
theorem Ft(rk:RKd C φ H kvs ks):RVs C φ H (kvs.map (·.1)) ((ks.map λq=>(V.ref q.2.1,q.2.2)).map (·.1)):=by
 unfold RKd at rk
 induction rk with
 |nil=>trivial
 | @cons p q ps qs e t ih=>exact⟨e.2.2.1,ih⟩
structure N2(C:MC)(φ:List Addr)(H:Hp)(s:Shared)(b:Addr)(o:MO)(ks:List (V×V))(u:HO)(oc:Obj)(es:Array RU)(ep:Nat):Prop where
 at':H b=some u
 nf:Fq u
 nz:∀o z,u≠.frz o z
 nt:rE (some u)
 get:s.heap.get? b=some oc
 cls:oc.cls=.type "dict"
 data:oc.data=.dict es ep
 nsys:(b == QG)=false
 fz:∀φ' H',φ<+:φ'->H' b=some (.frz oc u)->Kp H H'->RO C φ' H' b (.fz o)
 len:ks.length=es.size
 ent:∀(i:Nat)(hi:i<es.size),∃kv,ks[i]?=some kv/\RelV kv.1 es[i].key/\RelV kv.2 es[i].val
 keys:∀xs,AD o=some xs->RVs C φ H xs (ks.map (·.1))
 items:∀xs,mR o=some xs->xs.length=ks.length/\∀(i:Nat) p,xs[i]?=some p->∃p1 p2 kv,p=.tup [p1,p2]/\ks[i]?=some kv/\RV C φ H p1 kv.1/\RV C φ H p2 kv.2
theorem Fv{k:Nat}{d:Nat}{b:Addr}{o:MO}(c:Cxt C k X)(I:Inv X pins σ H s)(rh:RH C φ H h)(hb:φ[d]?=some b)(ho:h[d]?=some o)(hd:uF (some o)=true):∃ks u oc es ep,N2 C φ H s b o ks u oc es ep:=by
 cases o with
 |dK kvs=>
  obtain⟨ks,hH,rk⟩:=rh.at' d b _ hb ho;obtain⟨z,hm,vs,rel,dd⟩:=vU I.hok hH;obtain⟨oc,es,ep,g1,g2,g3,g4,g5,g6⟩:=dd;have l1:ks.length=vs.length:=Qz rel;have l2:es.size=vs.length:=by have:=tZ g5;have:=congrArg Te this;simpa using this
  refine⟨ks.map λq=>(kV q.1,q.2),_,oc,es,ep,hH,trivial,(λ_ _ e=>by cases e),trivial,g1,g2.1,g3,hm,λφ' H' p e t=>⟨oc,ks,e,rk.mono p t⟩,by rw[PC,l1,l2],λi hi=>?_,λxs hx=>?_,λxs hx=>?_⟩
  ·have hv:vs[i]?=some (vs[i]'(by omega)):=by simp[show i<vs.length by omega]
   have he:es.toList[i]?=some es[i]:=by simp[hi]
   obtain⟨q1,q2⟩:=g5.get? he hv;obtain⟨kv,gu,jv⟩:=mS rel hv;refine⟨(kV kv.1,kv.2),by rw[PQ,gu];rfl,?_,?_⟩
   ·show RelV (kV kv.1) es[i].key
    rw[jv.1];exact KC q1
   ·show RelV kv.2 es[i].val
    rw[q2];exact jv.2
  ·cases hx
   exact Fs rk
  ·cases hx
   have lk:kvs.length=ks.length:=Qz rk;refine⟨by rw[PC,PC,lk],λi p e=>?_⟩;rw[PQ]at e;obtain⟨kv,e1,rfl⟩:=Qa.mp e;obtain⟨q,e2,r2⟩:=qD rk e1;exact⟨_,_,(kV q.1,q.2),rfl,by rw[PQ,e2];rfl,by show RV C φ H (kP kv.1) (kV q.1);rw[r2.1];exact Cn q.1,r2.2⟩
 |dD kvs=>
  obtain⟨ks,hH,rk⟩:=rh.at' d b _ hb ho;have hO:bC X.prog X.w H s.heap b (dDO C.w b ks):=I.hok b _ hH;obtain⟨⟨hz,hm,xs,rx,oc,es,ep,g1,g2,g3,g4,g5⟩,_⟩:=hO;have l1:ks.length=xs.length:=Qz rx;have l2:es.size=xs.length:=by have:=congrArg Te g4;simpa using this
  refine⟨ks.map λq=>(V.ref q.2.1,q.2.2),_,oc,es,ep,hH,trivial,(λ_ _ e=>by cases e),trivial,g1,g2.1,g3,hm,λφ' H' p e t=>⟨oc,ks,e,rk.mono p t⟩,by rw[PC,l1,l2],λi hi=>?_,λxs hx=>?_,λxs hx=>?_⟩
  ·have hv:xs[i]?=some (xs[i]'(by omega)):=by simp[show i<xs.length by omega]
   have he:es.toList[i]?=some es[i]:=by simp[hi]
   rw[g4,PQ,hv]at he;have jc:=P4 he;obtain⟨kv,gu,jv⟩:=mS rx hv;refine⟨(V.ref kv.2.1,kv.2.2),by rw[PQ,gu];rfl,?_,?_⟩
   ·show RelV (V.ref kv.2.1) es[i].key
    rw[<-jc,jv.2.1];rfl
   ·show RelV kv.2.2 es[i].val
    rw[<-jc];exact jv.2.2
  ·cases hx
   exact Ft rk
  ·cases hx
   have lk:kvs.length=ks.length:=Qz rk;refine⟨by rw[PC,PC,lk],λi p e=>?_⟩;rw[PQ]at e;obtain⟨kv,e1,rfl⟩:=Qa.mp e;obtain⟨q,e2,r2⟩:=qD rk e1;exact⟨_,_,(V.ref q.2.1,q.2.2),rfl,by rw[PQ,e2];rfl,r2.2.2.1,r2.2.2.2⟩
 |_=>cases hd
theorem Fw{o:MO}(h:AD o=some xs):uF (some o)=true:=by cases o <;> first|rfl|cases h
theorem DI{o:MO}(h:mR o=some xs):uF (some o)=true:=by cases o <;> first|rfl|cases h
set_option tactic.hygienic true in
theorem HV{x:PV}{d:Nat}{o:MO}(e:wkI b x h=some (d,o,xs)):∃n,x=.ref n/\((h[n]?=some (.vw 0 d)/\b=true/\h[d]?=some o/\mR o=some xs)\/(h[n]?=some o/\n=d/\AD o=some xs)):=by
 unfold wkI at e;split at e
 ·rename_i n;refine⟨n,rfl,?_⟩;split at e
  ·rename_i d' hv;split at e
   ·rename_i hb;cases e1:h[d']? with
    |none=>rw[e1]at e;cases e
    |some o'=>
     rw[e1]at e;cases e2:mR o' with
     |none=>simp[e2]at e
     |some ys=>
      simp[e2]at e;obtain⟨rfl,rfl,rfl⟩:=e;exact .inl ⟨hv,hb,e1,e2⟩
   ·cases e
  ·rename_i o' _ hv;cases e2:AD o' with
   |none=>rw[e2]at e;cases e
   |some ys=>
    rw[e2]at e;simp at e;obtain⟨rfl,rfl,rfl⟩:=e;exact .inr ⟨hv,rfl,e2⟩
  ·cases e
 ·cases e
def walk2(b:Bool)(x:PV)(h1:PH):Rs Wk:=match wkI b x h1 with
 |some (d,o,xs)=>.ok ⟨xs,λ_=>true⟩ (h1.set d (.fz o))
 |none=>.bad
theorem KD{k:Nat}(b:Bool)(hb:b=true->∃elts x1 pos,tg=.Tuple elts x1 pos)(h:SE C k X iter m):SI C k X tg iter (uG b m):=λc=>by
 intro pins s σ H R I q;obtain⟨φ,δ,hh,rh,re,p⟩:=q;have key:rd C m σ H λv H1=>∃φ1 x h1,φ<+:φ1/\Kp H H1/\RH C φ1 H1 h1/\RV C φ1 H1 x v/\cR C φ1 H1 (walk2 b x h1) R:=by
  refine⟨φ,δ,hh,rh,re,?_⟩;unfold uG at p;cases e:m δ hh with
  |ok x h1=>
   rw[e]at p;intro φ' v H' p' t' bt ax;refine⟨φ',x,h1,p',t',bt,ax,?_⟩
   show cR C φ' H' (walk2 b x h1) R
   have p0:cR C φ H (walk2 b x h1) R:=p;cases e2:walk2 b x h1 with
   |ok w h2=>rw[e2]at p0;exact λφ2 H2 J p2 t2=>p0 φ2 H2 J (p'.trans p2) (t'.trans t2)
   |exc z h2=>rw[e2]at p0;exact λφ2 H2 p2 t2=>p0 φ2 H2 (p'.trans p2) (t'.trans t2)
   |bad=>rw[e2]at p0;exact p0
  |exc x h1=>rw[e]at p;exact p
  |bad=>rw[e]at p;exact p
 refine thn (h c pins s σ H _ I key) λv s1 hz=>?_;obtain⟨x,H1,I1,r1,φ1,x',h1,p1,t1,aa,ab,q1⟩:=hz;unfold walk2 at q1;cases e:wkI b x' h1 with
 |none=>rw[e]at q1;exact q1.elim
 |some t=>
  obtain⟨d,o,xs⟩:=t;rw[e]at q1;dsimp only at q1;obtain⟨n,rfl,mw⟩:=HV e;obtain⟨a,rfl,ha⟩:=ab;cases r1
  -- the frozen heap
  have fin:∀{bb:Addr}{ks:List (V×V)}{u:HO}{oc:Obj}{es:Array RU}{ep:Nat}(k5:φ1[d]?=some bb)(W:N2 C φ1 H1 s1 bb o ks u oc es ep)(ob:Obj)(J:It)(tn:Nat->Heap->Prop),(∀φ2 H2 h2,φ1<+:φ2->Kp (upd H1 bb (.frz oc u)) H2->RH C φ2 H2 h2->∀i:Nat,
    (i<xs.length->J.go i H2/\∀x H',J.yld i H2 x H'->(∃p,xs[i]?=some p/\RV C φ2 H' p x)/\Kp H2 H'/\RH C φ2 H' h2)/\(xs.length<=i->J.stop i H2))->
    Turn X.prog X.w X.K tg J [s1.heap.objs.size] s1.heap.objs.size tn->tn 0 (s1.heap.push ob)->PIE X pins σ tg R (.ref s1.heap.objs.size) { s1 with heap:=s1.heap.push ob }:=λ{bb ks u oc es ep} k5 W ob J tn hJ hT h0=>by
   have I2:=I1.freeze W.at' W.nf W.nz W.get;have nt:rE (H1 bb):=by rw[W.at'];exact W.nt
   refine⟨s1.heap.objs.size,[s1.heap.objs.size],tn,J,upd H1 bb (.frz oc u),rfl,I2.kept (t':=s1.toks) λb o e=>PB _ e,hT,h0,λb hb=>?_,?_⟩
   ·have e:b=s1.heap.objs.size:=by simpa using hb
    subst e;exact I2.fpOk (PD _) (I2.hok.fresh (PD _))
   ·exact q1 φ1 _ J PF (Kp.upd nt) (aa.write k5 nt (W.fz φ1 _ PF aJ (Kp.upd nt))) λφ2 H2 h2 p2 t2 ah _ i=>hJ φ2 H2 h2 p2 t2 ah i
  rcases mw with⟨hv,hbt,ho,hx⟩|⟨ho,rfl,hx⟩
  ·obtain⟨bb,k5,hH⟩:=aa.at' n a _ ha hv;obtain⟨ks,u,oc,es,ep,W⟩:=Fv c I1 aa k5 ho (DI hx);obtain⟨elts,x1,pos,rfl⟩:=hb hbt;have ig:s1.heap.IsItemsView a bb:=(I1.hok a _ hH).1;obtain⟨lx,ex⟩:=W.items xs hx;refine Ba ig W.get W.data (fin k5 W _ (ItI bb oc u ks) _ (λφ2 H2 h2 p2 t2 ah i=>⟨λhi=>⟨⟨t2.2 _ _ _ aJ,by omega⟩,λx H' y=>?_⟩,λhi=>⟨t2.2 _ _ _ aJ,by omega⟩⟩) (Br _ bb oc u es ep W.data ks W.len W.ent) ⟨.none,.none,PR _ rfl⟩);obtain⟨t,kv,ht,gu,rfl,rfl⟩:=y;obtain⟨p1,p2',kv',yx,nh,y0,uj⟩:=ex i xs[i] (by simp[hi]);rw[gu]at nh;cases nh
   have nt:rE (H1 bb):=by rw[W.at'];exact W.nt
   have T:Kp H1 (upd H2 t (.tup [kv.1,kv.2])):=(Kp.upd nt).trans (t2.trans (Kp.new ht));refine⟨⟨xs[i],by simp[hi],?_⟩,Kp.new ht,ah.aside ht⟩;rw[yx];exact⟨t,[kv.1,kv.2],rfl,.inl (.inl aJ),y0.mono p2 T,uj.mono p2 T,trivial⟩
  ·obtain⟨ks,u,oc,es,ep,W⟩:=Fv c I1 aa ha ho (Fw hx);have rk:=W.keys xs hx;have lx:=rk.length;rw[PC]at lx;refine DG ⟨oc,W.get,W.cls⟩ W.nsys W.get W.data (fin ha W _ (ItK a oc u (ks.map (·.1))) _ (λφ2 H2 h2 p2 t2 ah i=>⟨λhi=>⟨⟨t2.2 _ _ _ aJ,by rw[PC];omega⟩,λx H' y=>?_⟩,λhi=>⟨t2.2 _ _ _ aJ,by rw[PC];omega⟩⟩) (DH _ a oc u es ep W.data (ks.map (·.1)) (by rw[PC];exact W.len) λi hi=>?_) ⟨_,PR _ rfl,rfl,rfl⟩)
   ·obtain⟨rfl,ey⟩:=y;have nt:rE (H1 a):=by rw[W.at'];exact W.nt
    obtain⟨p,gg,rp⟩:=rk.get ey;exact⟨⟨p,gg,rp.mono p2 ((Kp.upd nt).trans t2)⟩,Kp.refl _,ah⟩
   ·obtain⟨kv,gu,r1,_⟩:=W.ent i hi;exact⟨kv.1,by rw[PQ,gu];rfl,r1⟩
theorem RH.writeQ(r:RH C φ H h){u:HO}{o:MO}(e:φ[n]?=some a)(t:Kq H (upd H a u))(q:RO C φ (upd H a u) a o):RH C φ (upd H a u) (h.set n o):=by
 refine⟨by rw[Qu];exact r.len,r.nd,λm b ob h1 h2=>?_⟩
 by_cases hm:n=m
 ·subst hm;rw[e]at h1;cases h1;have hl:n<h.length:=by rw[<-r.len];exact(Pv.mp e).1
  rw[Q3 hl]at h2;cases h2
  exact q
 ·rw[QQ hm]at h2;have hb:b≠a:=λz=>by
   subst z;exact hm ((List.getElem?_inj (Pv.mp e).1 r.nd).mp (e.trans h1.symm))
  exact(r.at' m b ob h1 h2).stayQ PF t (aH hb)
def kN(d:Nat)(h:PH):Option PH:=match h[d]? with
 |some (.fz o)=>some (h.set d o)
 |_=>none
set_option tactic.hygienic true in
theorem lI{d:Nat}(rh:RH C φ H h)(hd:uF h[d]?=true)(p:φ<+:φ')(t:Kp H H')(ah:RH C φ' H' h2)(e:kN d h2=some h3):
  ∃a oc u,H' a=some (.frz oc u)/\(∀o z,H a≠some (.frz o z))/\Kp H (upd H' a u)/\RH C φ' (upd H' a u) h3/\Kq H' (upd H' a u):=by
 unfold kN at e;split at e
 ·rename_i o ho;cases e
  cases e0:h[d]? with
  |none=>rw[e0]at hd;cases hd
  |some o0=>
   rw[e0]at hd;obtain⟨a,ha,r0⟩:=rh.get e0;have nf:∀o z,H a≠some (.frz o z):=λo z q=>by
    cases o0 with
    |dK kvs=>obtain⟨ks,q2,_⟩:=r0;rw[q]at q2;cases q2
    |dD kvs=>obtain⟨ks,q2,_⟩:=r0;rw[q]at q2;cases q2
    |_=>cases hd
   have ha':=fP p ha;have r1:=ah.at' d a _ ha' ho;have gen:∀oc u,H' a=some (.frz oc u)->(∀xs,u≠.tup xs)->(∀xs,u≠.lst xs)->Kp H (upd H' a u)/\Kq H' (upd H' a u):=λoc u q nt nl=>by
    have kq:Kq H' (upd H' a u):=⟨λb xs z=>by
     have ne:b≠a:=by
      rintro rfl;rcases z with z|⟨ob,z⟩
      ·rw[q]at z;cases z
      ·rw[q]at z;cases z;exact nt _ rfl
     unfold Rd;rw[aH ne];exact z,λb ob xs z=>by
     have ne:b≠a:=by
      rintro rfl;rw[q]at z;cases z;exact nl _ rfl
     rw[aH ne];exact z⟩
    refine⟨⟨λb xs z=>kq.1 b xs (t.1 b xs z),λb ob z q2=>?_⟩,kq⟩;have ne:b≠a:=λz2=>nf ob z (z2▸q2);rw[aH ne];exact t.2 b ob z q2
   cases o with
   |dK kvs=>
    obtain⟨oc,ks,q,r⟩:=r1;obtain⟨k1,k2⟩:=gen oc _ q (λ_ z=>by cases z) (λ_ z=>by cases z);exact⟨a,oc,_,q,nf,k1,ah.writeQ ha' k2 ⟨ks,aJ,r.monoQ PF k2⟩,k2⟩
   |dD kvs=>
    obtain⟨oc,ks,q,r⟩:=r1;obtain⟨k1,k2⟩:=gen oc _ q (λ_ z=>by cases z) (λ_ z=>by cases z);exact⟨a,oc,_,q,nf,k1,ah.writeQ ha' k2 ⟨ks,aJ,r.monoQ PF k2⟩,k2⟩
   |_=>exact r1.elim
 ·cases e
def wkD(b:Bool)(m:Me)(δ:Ev)(h:PH):Option Nat:=match m δ h with
 |.ok x h1=>match wkI b x h1 with
  |some (d,_,_)=>if uF h[d]?=true then some d else none
  |none=>none
 |_=>none
set_option tactic.hygienic true in
theorem KF{d:Nat}(e:wkD b m δ h=some d):uF h[d]?=true:=by
 unfold wkD at e;split at e
 ·split at e
  ·split at e
   ·rename_i hd;cases e
    exact hd
   ·cases e
  ·cases e
 ·cases e
theorem RE.monoQ(t:Kq H H')(h:RE C φ H δ σ):RE C φ H' δ σ:=⟨h.1,λi x e=>let ⟨v,q,r⟩:=h.2 i x e;⟨v,q,r.monoQ PF t⟩⟩
def lW(d:Nat):Fl->Fl
 |.nx δ h=>match kN d h with
  |some h3=>.nx δ h3
  |none=>.bad
 |.rt p h=>match kN d h with
  |some h3=>.rt p h3
  |none=>.bad
 |.bk δ h=>match kN d h with
  |some h3=>.bk δ h3
  |none=>.bad
 |.ct δ h=>match kN d h with
  |some h3=>.ct δ h3
  |none=>.bad
 |.exc x h=>.exc x h
 |.bad=>.bad
def qE(b:Bool)(m:Me)(ms:Ms):Ms:=λδ h=>match wkD b m δ h with
 |some d=>lW d (ms δ h)
 |none=>.bad
def Co(H:Hp)(P:Hp->Prop)(H2:Hp):Prop:=∃a oc u,H2 a=some (.frz oc u)/\(∀o z,H a≠some (.frz o z))/\P (upd H2 a u)
theorem KG{k:Nat}{ms:Ms}(b:Bool)(m:Me)(he:SSt C k X st ms):SSt C k X st (qE b m ms):=λc=>by
 intro pins s σ H D I q;obtain⟨φ,δ,h,rh,re,p⟩:=q;unfold qE at p;cases ed:wkD b m δ h with
 |none=>rw[ed]at p;exact p.elim
 |some d=>
  rw[ed]at p;dsimp only at p;have hd:=KF ed;refine thn (he c pins s σ H { nx:=λσ=>Co H (D.nx σ),rt:=λv=>Co H (D.rt v),bk:=λσ=>Co H (D.bk σ),ct:=λσ=>Co H (D.ct σ) } I ⟨φ,δ,h,rh,re,?_⟩) ?_
  ·cases em:ms δ h with
   |bad=>rw[em]at p;exact p.elim
   |exc x h2=>rw[em]at p;exact p
   |nx δ2 h2=>
    rw[em]at p;intro φ' v H' pp tt bt ax;cases et:kN d h2 with
    |none=>simp only[lW,et]at p;exact p.elim
    |some h3=>
     simp only[lW,et]at p;obtain⟨a,oc,u,q,nf,k1,c8,k2⟩:=lI rh hd pp tt bt et;exact⟨a,oc,u,q,nf,p φ' v _ pp k1 c8 (RE.monoQ k2 ax)⟩
   |rt x h2=>
    rw[em]at p;intro φ' v H' pp tt bt ax;cases et:kN d h2 with
    |none=>simp only[lW,et]at p;exact p.elim
    |some h3=>
     simp only[lW,et]at p;obtain⟨a,oc,u,q,nf,k1,c8,k2⟩:=lI rh hd pp tt bt et;exact⟨a,oc,u,q,nf,p φ' v _ pp k1 c8 (ax.monoQ PF k2)⟩
   |bk δ2 h2=>
    rw[em]at p;intro φ' v H' pp tt bt ax;cases et:kN d h2 with
    |none=>simp only[lW,et]at p;exact p.elim
    |some h3=>
     simp only[lW,et]at p;obtain⟨a,oc,u,q,nf,k1,c8,k2⟩:=lI rh hd pp tt bt et;exact⟨a,oc,u,q,nf,p φ' v _ pp k1 c8 (RE.monoQ k2 ax)⟩
   |ct δ2 h2=>
    rw[em]at p;intro φ' v H' pp tt bt ax;cases et:kN d h2 with
    |none=>simp only[lW,et]at p;exact p.elim
    |some h3=>
     simp only[lW,et]at p;obtain⟨a,oc,u,q,nf,k1,c8,k2⟩:=lI rh hd pp tt bt et;exact⟨a,oc,u,q,nf,p φ' v _ pp k1 c8 (RE.monoQ k2 ax)⟩
  ·intro f s1 hf;cases f with
   |next=>
    obtain⟨σ',H2,I2,a,oc,u,q,nf,hq⟩:=hf;exact⟨σ',_,I2.thaw q (I.nofrz nf),hq⟩
   |brk=>
    obtain⟨σ',H2,I2,a,oc,u,q,nf,hq⟩:=hf;exact⟨σ',_,I2.thaw q (I.nofrz nf),hq⟩
   |cont=>
    obtain⟨σ',H2,I2,a,oc,u,q,nf,hq⟩:=hf;exact⟨σ',_,I2.thaw q (I.nofrz nf),hq⟩
   |ret w=>
    obtain⟨v,σ',H2,I2,r,a,oc,u,q,nf,hq⟩:=hf;exact⟨v,σ',_,I2.thaw q (I.nofrz nf),r,hq⟩
def gX:PV->List PV->PH->Rs PV:=λx ps h=>match x,ps with
 |.ref n,[]=>if uF h[n]?=true then .ok (.ref h.length) (h++[.vw 0 n]) else .bad
 |_,_=>.bad
set_option tactic.hygienic true in
theorem Fx{k:Nat}:MtG C k X "dict" bO "dict.items" gX:=λc=>⟨λpins s σ H x xs v us Q I rx rs h=>by
 obtain⟨φ,h,p,ps,rh,rp,jq,po⟩:=h;unfold gX at po;split at po
 ·rename_i n;split at po
  ·rename_i hd;obtain⟨a,rfl,ha⟩:=rp;have:xs=[]:=by cases xs <;> first|rfl|exact jq.elim
   subst this;cases rx
   cases rs
   cases ho:h[n]? with
   |none=>rw[ho]at hd;cases hd
   |some o=>
    rw[ho]at hd;obtain⟨ks,u,oc,es,ep,W⟩:=Fv c I rh ha ho hd;have hT:s.TypeIs (.ref a) "dict" := ⟨oc,W.get,W.cls⟩;refine RM PySem.F.slot_dict_items hT PySem.F.entry_dict_items (PySem.F.args_dict_items_1 _) (Ah a W.nsys) ⟨hT,?_⟩;have fr:H s.heap.objs.size=none:=I.fresh;refine⟨.ref s.heap.objs.size,_,I.laid (t':=s.toks) (o:=EE 0 s.heap.objs.size a) (λb u e=>PB _ e) (PD _) ?_,rfl,?_⟩
    ·exact⟨⟨_,PR _ rfl,rfl,rfl⟩,⟨_,PR _ rfl⟩,λh1 h2 ⟨o,e,p⟩ k=>⟨o,k o e,p⟩⟩
    ·exact po (φ++[s.heap.objs.size]) (.ref _) _ (QB _ _) (Kp.new fr) (rh.new fr ⟨a,fP (QB _ _) ha,aJ⟩) ⟨_,rfl,by rw[<-rh.len];simp⟩
  ·exact po.elim
 ·exact po.elim,oS c⟩
theorem Bs{o:MO}(e:h[n]?=some o)(hd:uF (some o)=true):gX (.ref n) [] h=.ok (.ref h.length) (h++[.vw 0 n]):=by
 simp only[gX,e,hd,if_true]
theorem Fy{d:Nat}{o:MO}(e:h[n]?=some (.vw 0 d))(e2:h[d]?=some o)(hx:mR o=some xs):wkI true (.ref n) h=some (d,o,xs):=by
 simp[wkI,e,e2,hx]
theorem KH{x:PV}{d:Nat}{o:MO}(e:m δ h=.ok x h1)(ew:wkI b x h1=some (d,o,xs))(hd:uF h[d]?=true):wkD b m δ h=some d:=by
 simp[wkD,e,ew,hd]
theorem FA{x:PV}{d:Nat}{o:MO}(e:m δ h=.ok x h1)(ew:wkI b x h1=some (d,o,xs)):uG b m δ h=.ok ⟨xs,λ_=>true⟩ (h1.set d (.fz o)):=by
 simp[uG,e,ew]
open PySem PySem.Spec PyProof.Rows PySem.SeqAt PySem.W
def hdk:PV->Option Nat
 |.tup (.int _::_)=>some 0
 |.tup (.str _::_)=>some 1
 |.tup (.tup _::_)=>some 2
 |_=>none
open PySem PySem.Spec PyProof.Rows
def Its(x:Str):It:=⟨λi _=>i<x.cps.size,λi H v H'=>H'=H/\∃c,x.cps[i]?=some c/\v=V.str ⟨#[c]⟩,λi _=>x.cps.size<=i⟩
theorem FB(x:Str)(t:Tok)(it:Addr):Turn P w K tg (Its x) [it] it (λi h=>h.IsStrIter it "str_ascii_iterator" x t i) where
 mem:=by simp
 obj:=λi h st b hb=>by
  have e:b=it:=by simpa using hb
  subst e;obtain⟨o,e,c,d⟩:=st;exact⟨o,e,λv z=>by rw[d]at z;cases z⟩
 keep:=λi h h' ⟨o,e,r⟩ k=>⟨o,k it (by simp) o e,r⟩
 item:=by
  intro X hP hw hK hc i pins s σ H E I hf st hg;subst hP hw hK;obtain⟨f0,f1,f2,f3,f4,f5⟩:=hf it (by simp);have hi:x.cps[i]?=some x.cps[i]:=Q6 hg;refine wpAny_pyNext_ascii_item st hi λh' bx sb=>?_;have I1:Inv X pins σ H { s with heap:=h',toks:=s.toks+1 }:=I.turned (t':=s.toks+1) (λb o hb e=>(sb.2 b hb).trans e) f0 f1 f3 f4 f5;obtain⟨o,e,c,d⟩:=id bx;exact⟨_,rfl,A0 (s:={ s with heap:=h',toks:=s.toks+1 }) e c d (by decide) ⟨.str ⟨#[x.cps[i]]⟩,H,I1,⟨_,rfl⟩,⟨rfl,_,hi,rfl⟩,bx,λb hb=>(hf b hb).1⟩⟩
 done:=by
  intro X hP hw hK hc i pins s σ H E I hf st hg;subst hP hw hK;obtain⟨f0,f1,f2,f3,f4,f5⟩:=hf it (by simp);exact wpAny_pyNext_ascii_end (I.ok.hd hc) st (Q5 hg) λh' eb=>⟨rfl,I.turned (t':=s.toks) (λb o hb e=>eb b o hb e) f0 f1 f3 f4 f5⟩
 self:=λ_ _ _ _ _ st h=>wpAny_pyIter_striter_ascii st h
def ofStr(x:PV)(h:PH):Rs Wk:=match x with
 |.str x=>if(x.cps.all λc=>decide (c<128))=true then .ok ⟨x.cps.toList.map λc=>.str ⟨#[c]⟩,λ_=>true⟩ h else .bad
 |_=>.bad
def xC(m:Me):Mi:=λδ h=>(m δ h).bind ofStr
set_option tactic.hygienic true in
theorem N3{k:Nat}(h:SE C k X iter m):SI C k X tg iter (xC m):=λc=>by
 intro pins s σ H R I q;obtain⟨φ,δ,hh,rh,re,p⟩:=q;have key:rd C m σ H λv H1=>∃φ1 x h1,φ<+:φ1/\Kp H H1/\RH C φ1 H1 h1/\RV C φ1 H1 x v/\cR C φ1 H1 (ofStr x h1) R:=by
  refine⟨φ,δ,hh,rh,re,?_⟩;unfold xC at p;cases e:m δ hh with
  |ok x h1=>
   rw[e]at p;intro φ' v H' p' t' bt ax;refine⟨φ',x,h1,p',t',bt,ax,?_⟩
   show cR C φ' H' (ofStr x h1) R
   have p0:cR C φ H (ofStr x h1) R:=p;cases e2:ofStr x h1 with
   |ok w h2=>rw[e2]at p0;exact λφ2 H2 J p2 t2=>p0 φ2 H2 J (p'.trans p2) (t'.trans t2)
   |exc z h2=>rw[e2]at p0;exact λφ2 H2 p2 t2=>p0 φ2 H2 (p'.trans p2) (t'.trans t2)
   |bad=>rw[e2]at p0;exact p0
  |exc x h1=>rw[e]at p;exact p
  |bad=>rw[e]at p;exact p
 refine thn (h c pins s σ H _ I key) λv s1 hz=>?_;obtain⟨x,H1,I1,r1,φ1,x',h1,p1,t1,aa,ab,q1⟩:=hz;unfold ofStr at q1;cases x' with
 |str x'=>
  cases ab
  obtain⟨t,rfl⟩:=r1;dsimp only at q1;split at q1
  ·rename_i ha;refine wpAny_pyIter_ascii ha ?_;refine⟨s1.heap.objs.size,[s1.heap.objs.size],_,_,H1,rfl,I1.kept (t':=s1.toks) λb o e=>PB _ e,FB x' t _,⟨_,PR _ rfl,rfl,rfl⟩,λb hb=>?_,?_⟩
   ·have e:b=s1.heap.objs.size:=by simpa using hb
    subst e;exact I1.fpOk (PD _) (I1.hok.fresh (PD _))
   ·refine q1 φ1 H1 (Its x') PF (Kp.refl H1) aa λφ2 H2 h2 p2 t2 ah _ i=>⟨λhi=>?_,λhi=>by simpa[Its] using hi⟩
    have ay:i<x'.cps.size:=by simpa using hi
    refine⟨ay,λv H' y=>?_⟩;obtain⟨e,c',ec,rfl⟩:=y;subst e;have:x'.cps.toList[i]?=some c':=by simpa using ec
    exact⟨⟨.str ⟨#[c']⟩,by simp[ec],rfl⟩,Kp.refl _,ah⟩
  ·exact q1.elim
 |_=>exact q1.elim
theorem KI{E:FE}{tg:Mg}(I:Nat->Ev->PH->Prop)(e:m δ h=.ok (.str x) h)(ha:(x.cps.all λc=>decide (c<128))=true)(h0:I 0 δ h)(step:∀(q:Nat) c δ h,x.cps.toList[q]?=some c->I q δ h->∃δ1,tg (.str ⟨#[c]⟩) δ=some δ1/\(body δ1 h).W { nx:=I (q+1),ct:=I (q+1),rt:=E.rt,bk:=E.nx })(fin:∀δ h,I x.cps.size δ h->E.nx δ h):(cT (xC m) tg body δ h).W E:=by
 have go:(eI (λ_=>true) tg body (x.cps.toList.map λc=>PV.str ⟨#[c]⟩) δ h).W E:=pY I _ 0 δ h h0 (λq y δ h _ hx hi=>⟨rfl,by
  rw[Nat.sub_zero,PQ]at hx;obtain⟨c,hc,rfl⟩:=Qa.mp hx;exact step q c δ h hc hi⟩) (λδ h hi=>⟨rfl,fin δ h (by simpa using hi)⟩)
 unfold cT xC;rw[e,Rs.bind_ok];unfold ofStr;dsimp only;rw[if_pos ha];exact go
theorem HW(K:Py)(hK:X.K=K):OpR X (QW .Add) (λx y H Q=>∃l b xs zs,x=.ref l/\y=.ref b/\SqL K H l xs/\H b=some (.lst zs)/\xs.length+zs.length<=PP/\∀p,H p=none->Q (.ref p) (upd H p (.lst (xs++zs)))):=by
 subst hK;intro pins s σ H x y v u Q I rx ry h;obtain⟨l,b,xs,zs,rfl,rfl,hH,hB,hz,q⟩:=h;cases rx
 cases ry
 obtain⟨its,r,⟨⟨oc,od,oda,osl⟩,n,e,h1,h2,h3⟩,z⟩:=I.list hH;obtain⟨z2,cx,n2,r2,ix,e2⟩:=I.lstM hB;have hl:=r.length;dsimp only at h1 h2 h3;subst h1 h2 h3;refine concat_meets (T:="list") ⟨_,e,rfl⟩ ⟨_,e2,rfl⟩ noFill_list_add seq_list_add F.slot_list_add F.entry_list_add (F.args_list_add_2 _ _) (list_addW l b its.toArray cx.toArray n n2 none none osl #[] (by rw[PJ,PJ];omega)) ⟨e,e2,?_⟩;have ea:its.toArray++cx.toArray=(its++cx).toArray:=by simp
 rw[ea];exact⟨.ref _,_,I.lnew (t':=s.toks) (r.append r2) (by rw[QU];omega),rfl,q _ I.fresh⟩
def kO:PV->PV->PH->Rs PV:=λx y h=>match x,y with
 |.fl xs,.ref m=>match cQ h m with
  |some ys=>if xs.length+ys.length<=PP then .ok (.ref h.length) (h++[.lst (xs++ys)]) else .bad
  |none=>.bad
 |_,_=>.bad
set_option tactic.hygienic true in
theorem HX{k:Nat}:OpS C k X (QW .Add) kO:=λc=>(HW C.K c.K).imp λx y H Q h=>by
 obtain⟨φ,h,p,q,rh,rx,ry,po⟩:=h;unfold kO at po;split at po
 ·rename_i xs m;obtain⟨a,vs,rfl,sa,ra⟩:=rx;obtain⟨b,rfl,hb⟩:=ry;cases e:cQ h m with
  |none=>rw[e]at po;exact po.elim
  |some ys=>
   rw[e]at po;obtain⟨us,h2,r2⟩:=rh.at' m b _ hb (fV e);obtain⟨hz,po⟩:=po.ite;exact⟨a,b,vs,us,rfl,rfl,sa.sq,h2,by rw[<-ra.length,<-r2.length];exact hz,λp hp=>po.lnew rh (ra.append r2) hp⟩
 ·exact po.elim
theorem DK{m:Nat}(e:h[m]?=some (.lst ys))(hz:xs.length+ys.length<=16777216):kO (.fl xs) (.ref m) h=.ok (.ref h.length) (h++[.lst (xs++ys)]):=by
 have:cQ h m=some ys:=by simp[cQ,e]
 unfold kO;simp only[this];rw[if_pos (by rw[Qt];exact hz)]
def zB(f:Fn):Me:=λ_ h=>f [] h
theorem HY{k:Nat}{p:Pos}{f:Fn}(D:Def C.K X.mg x st a fd ps)(G:cE X.prog X.w C.K X.mg X.base CX0 j a fd ps (spM C 0 f))(hj:j<=k:=by decide)(hg:Gl X x:=by rfl)(b0:(x == ("__debug__" : Str))=false:=by decide):SE C k X (.Call (.Name x p) [] [] pos) (zB f):=λc=>by
 have e1:=c.K;have D':Def X.K X.mg x st a fd ps:=by rw[e1];exact D
 have G':cE X.prog X.w X.K X.mg X.base CX0 j a fd ps (spM C 0 f):=by rw[e1];exact G
 refine(Ec G' (c.room.mono hj) hg D'.mg D'.fn.kp D'.bd .nil A6 b0).imp λσ H Q h=>?_;obtain⟨φ,δ,h,rh,re,p⟩:=h;exact⟨φ,h,[],rh,trivial,rfl,p⟩
@[simp]theorem L8{f:Fn}:zB f δ h=f [] h:=(rfl)
def GEs(P:Params):List (Str×Str)->List RU->Prop
 |[],[]=>True
 |kv::r,e::es=>e.hash=PyData.keyHash P kv.1/\(∃t,e.key=.str kv.1 t)/\(∃t,e.val=.str kv.2 t)/\GEs P r es
 |_,_=>False
def N4(C:MC)(a:Addr)(kvs:List (Str×Str)):Prop:=(a == QG)=false/\(kvs.map λkv=>(Rg kv.1:Key)).Nodup/\∃es ep,C.K.lookup a=some ⟨.type "dict",none,.dict es ep,#[]⟩/\GEs C.w.params kvs es.toList
def lX:List (Str×Str)->Str->Option Str
 |[],_=>none
 |kv::r,z=>if kv.1=z then some kv.2 else lX r z
def gdV(o:Option Str):PV:=match o with
 |some v=>.str v
 |none=>.non
def vGd(kvs:List (Str×Str)):PV->PH->Rs PV:=λp h=>match p with
 |.str z=>.ok (gdV (lX kvs z)) h
 |_=>.bad
theorem xD{P:Program}{w:World}:∀{kvs:List (Str×Str)}{es:List RU},GEs w.params kvs es->∃vs:List (Key×Value),Pairs (aQ P w) es vs/\vs.map (·.1)=(kvs.map λkv=>(Rg kv.1:Key))/\(∀e∈es,∃k,(aQ P w).is k e.key=true/\e.hash=(aQ P w).hash k)/\
  ∀z:Str,match lX kvs z with
   |some v=>∃t,valueAt vs (Rg z:Key)=some (.str v t)
   |none=>valueAt vs (Rg z:Key)=none
 |[],[],_=>⟨[],.nil,rfl,(λ_ h=>nomatch h),λz=>rfl⟩
 |kv::r,e::es,⟨h1,⟨t1,h2⟩,⟨t2,h3⟩,h4⟩=>by
  obtain⟨vs,p,q,s,v⟩:=xD (P:=P) h4;have hi:(aQ P w).is (Rg kv.1:Key) e.key=true:=by rw[h2];exact qW P w _ _
  refine⟨((Rg kv.1:Key),e.val)::vs,.cons hi rfl p,by rw[P0,P0,q],λx hx=>?_,λz=>?_⟩
  ·rcases P5.mp hx with rfl|hx
   ·exact⟨_,hi,h1⟩
   ·exact s x hx
  ·have hv:=v z;unfold valueAt at hv⊢;unfold lX;rw[Qv]
   by_cases c:kv.1=z
   ·subst c;simp;exact⟨t2,h3⟩
   ·have c2:¬ (Rg kv.1:Key)=Rg z:=λq=>c (Sum.inr.inj q);simp only[if_neg c,decide_eq_false c2];exact hv
 |[],_::_,h=>h.elim
 |_::_,[],h=>h.elim
theorem HZ{k:Nat}{kvs:List (Str×Str)}{p:Pos}(hm:X.mg x=some (.ref a))(g:N4 C a kvs)(he:SE C k X e m)(hg:Gl X x:=by rfl)(hd:(x == ("__debug__" : Str))=false:=by decide)(bo:Sh (.Name x p) "get" X.env (eval (.Name x p) X.env)=eval (.Name x p) X.env:=by rfl)(dj:((backTo ae (P3 [e] X.env)).all (λx=>!x.1)&&(backToKw ae (keywordEach [] X.env)).all (λx=>x.1.isSome)
   && decide (([e]:List Expr).length+([]:List Keyword).length+(if([]:List Keyword).isEmpty then 0 else 1)<30))=true:=by rfl)(bh:(apos.endLine == ae.line)=true:=by rfl)(hs:backTo ae (P3 [e] X.env)=[(false,eval e X.env)]:=by rfl):SE C k X (.Call (.Attribute (.Name x p) "get" apos) [e] [] ae) (mUn (vGd kvs) m):=λc pins s σ H Q I q=>by
 obtain⟨φ,δ,h,rh,re,po⟩:=q;obtain⟨g1,g2,es,ep,g3,g4⟩:=g;rw[<-c.w]at g4;rw[<-c.K]at g3;obtain⟨vs,p1,p2,p3,p4⟩:=xD (P:=X.prog) g4;have dd:∀{H' s'},Inv X pins σ H' s'->s'.heap.DictOf (aQ X.prog X.w) a vs:=λI'=>⟨_,es,ep,I'.bk _ _ (I'.mod.kin _ _ g3),⟨rfl,rfl,rfl⟩,rfl,λx hx=>p3 x (by simpa using hx),p1,by rw[p2];exact g2⟩
 refine wpAny_Call_method bo dj bh RL QF PySem.F.type_dict_get (thn (BS (v:=.ref a) hg hm rfl hd pins s σ H (λv H'=>v=.ref a/\H'=H) I ⟨rfl,rfl⟩) λu s1 hz=>?_);obtain⟨x,H1,I1,rx,ex,eH⟩:=hz;subst ex eH;obtain rfl:u=Qk a:=rx;refine⟨(dd I1).typeIs,λb eb=>?_,?_⟩
 ·cases eb
  exact⟨_,I1.bk _ _ (I1.mod.kin _ _ g3),rfl⟩
 rw[hs];refine Sq rfl (Calls.evalArgs_plain (Calls.spliced_cons (thn (he c pins s1 σ H1 _ I1 ⟨φ,δ,h,rh,re,post.bind po⟩) ?_)));rintro iv s2 ⟨y,H2,I2,ry,φ2,py,h2,p22,t2,ah,b8,q2⟩;refine Calls.spliced_nil ?_;cases py with
 |str z=>
  obtain rfl:y=.str z:=b8;have q2:post C φ2 H2 (.ok (gdV (lX kvs z)) h2) Q:=q2;have Pp:RelV (kV (Rg z:Key)) iv:=ry;refine RM QF (dd I2).typeIs Q4 (Sk _ _) (meets_dict_get (aQ X.prog X.w) a (nU Pp) g1) ⟨_,(dd I2).mapOf,?_⟩;have hz:=p4 z;cases e1:lX kvs z with
  |none=>
   rw[e1]at hz q2;rw[hz];exact⟨.non,H2,I2.tok _,rfl,q2.val ah rfl⟩
  |some v=>
   rw[e1]at hz q2;obtain⟨t,hz⟩:=hz;rw[hz];exact⟨.str v,H2,I2.tok _,⟨t,rfl⟩,q2.val ah rfl⟩
 |_=>exact q2.elim
open PySem PySem.Spec PyProof.Rows PySem.W
def cS:Ms:=λ_ _=>.bad
theorem N5{k:Nat}:SSt C k X st cS:=λc _ _ σ H _ I h=>by
 obtain⟨φ,δ,h,rh,re,p⟩:=h;exact p.elim
open PySem PySem.Spec PyProof.Rows
theorem getD_none{α:Type}{o:Array (Option α)}{x:α}(h:(o.getD j (some x)).isNone=true):o[j]?=some none:=by
 by_cases q:j<o.size
 ·have e:o.getD j (some x)=o[j]:=by simp[Array.getD,q]
  rw[e]at h;rw[Q6 q,Option.isNone_iff_eq_none.mp h]
 ·have e:o.getD j (some x)=some x:=by simp[Array.getD,q]
  rw[e]at h;cases h
theorem sub_tuple_tuple:isSubtype (.type "tuple") (.type "tuple")=pure true:=isSubtype_tuple_tuple
end L2
namespace K73
open PySem L2
noncomputable section
def zC:Ms:=
 (aG (aS 2 (aB eZ (aB yI (aB bJ (aB bJ (mV 0) (aB yI (mC (.int 7919)) (mV 1))) (mC (.int 1))) (mC (.int 48271))) (mC (.int 2147483647))))
 (aV (aB eZ (aB yI (mV 2) (aB bJ (aB Di (mV 2) (mC (.int 1009))) (mC (.int 69621)))) (mC (.int 2147483647)))))
def aW:Fn:=mFn 3 zC
def qF:Ms:=
 (aS 3 (aB bJ (mV 3) (aB vAt (mC (.str "abcdefghijklmnopqrstuvwxyz")) (aB eZ (aL 2 aW (aA (mV 0) (aA (aB bJ (aB bJ (mC (.int 60)) (aB yI (mC (.int 9)) (mV 2))) (mV 4)) aC))) (mC (.int 26))))))
def qG:Ms:=
 (aX (aK (aB kI (mV 3) (mV 1)))
    (aS 3 (aB bJ (mSl (mV 3) kE (mP (mUn Ak (mC (.int 1))))) (mV 5)))
    bP)
def qH:Ms:=
 (aG (aS 3 (mC (.str "")))
  (aG (cT (iG (aA (aB bJ (mC (.int 1)) (aB eZ (aL 2 aW (aA (mV 0) (aA (aB bJ (mC (.int 50)) (mV 2)) aC))) (mC (.int 8)))) aC)) (gN 4) qF)
  (aG (cT (xC (mC (.str "klmno"))) (gN 5) qG)
  (kG (mMt isL (onL bA) (mV 1) (aA (mV 3) aC))))))
def zD:Ms:=
 (aG (aS 1 (eJ aC))
 (aG (cT (iG (aA (mC (.int 3)) aC)) (gN 2) qH)
 (aV (mCB iY (aA (mV 1) aC)))))
def zE:Fn:=mFn 6 zD
def qI:Ms:=
 (aG (aS 1 (aB vG (aB eZ (aB Di (mV 0) (mC (.int 5))) (aB vG (aB yI (mC (.int 2)) (aB Hl (mC (.int 10)) (mC (.int 40)))) (mC (.int 1)))) (aB vG (aB Hl (mC (.int 10)) (mC (.int 40))) (mC (.int 1)))))
 (aV (eJ (aA (mV 1) (aA (aB vG (mC (.int 0)) (aB Di (mV 1) (mC (.int 2)))) (aA (aB vG (aB eZ (mV 0) (mC (.int 7))) (mC (.int 3))) aC))))))
def qJ:Fn:=mFn 2 qI
def FC:Ms:=
 (aG (aS 4 (bV [none] (aU (mV 2)) (gN 0) (aK (aB vEq (aB vAt (aB vAt (mV 0) (mC (.int 2))) (mC (.int 0))) (mC (.str "make")))) (aB vAt (mV 0) (mC (.int 0)))))
 (aG (aS 5 (aB eZ (aL 2 aW (aA (mV 0) (aA (mC (.int 2)) aC))) (mC (.int 12))))
 (aG (aX (tQ (aK (aB vEq (mV 4) (eJ aC))) (tQ (aK (aB vEq (mV 5) (mC (.int 0)))) (jR (aK (aB wN (mV 1) (mC (.int 3)))) (aK (aB wN (mV 5) (mC (.int 9)))))))
  (aG (aS 6 (aB vAt (eJ (aA (mC (.str "choice")) (aA (mC (.str "bag")) (aA (mC (.str "count")) aC)))) (aB eZ (aL 2 aW (aA (mV 0) (aA (mC (.int 3)) aC))) (mC (.int 3)))))
  (aV (bK (aA (mC (.str "make")) (aA (mV 6) (aA (bK (aA (mC (.str "")) (aA (mC (.int 0)) aC))) (aA (aB Bm (aB vAt (mC (.str "abyz")) (aB eZ (aL 2 aW (aA (mV 0) (aA (mC (.int 4)) aC))) (mC (.int 4)))) (aB bJ (mC (.int 1)) (aB eZ (aL 2 aW (aA (mV 0) (aA (mC (.int 5)) aC))) (mC (.int 12))))) aC)))))))
  bP)
 (aG (aS 7 (aB vAt (eJ (aA (mC (.str "choose")) (aA (mC (.str "choose")) (aA (mC (.str "choose")) (aA (mC (.str "put")) (aA (mC (.str "put")) (aA (mC (.str "put")) (aA (mC (.str "take")) (aA (mC (.str "take")) (aA (mC (.str "add")) aC)))))))))) (aB eZ (aL 2 aW (aA (mV 0) (aA (mC (.int 3)) aC))) (mC (.int 9)))))
 (aG (aS 8 (aB vAt (mV 4) (aB eZ (aL 2 aW (aA (mV 0) (aA (mC (.int 6)) aC))) (mCB tR (aA (mV 4) aC)))))
 (aG (aX (aK (aB vEq (mV 5) (mC (.int 1))))
  (aS 8 (aB vAt (aB vAt (mV 2) (mUn Ak (mC (.int 1)))) (mC (.int 0))))
  bP)
 (aG (aX (aK (aB vEq (mV 5) (mC (.int 2))))
  (aS 8 (bK (aA (mC (.str "")) (aA (mC (.int 0)) aC))))
  bP)
 (aV (bK (aA (mV 7) (aA (mV 8) (aA (aB vAt (mV 3) (aB eZ (aL 2 aW (aA (mV 0) (aA (mC (.int 7)) aC))) (mC (.int 3)))) aC))))))))))))
def FD:Fn:=mFn 9 FC
def qK:Ms:=
 (gW (mC (.int 0)) (mV 3) (mV 4))
def iI:Ms:=
 (aG (aS 9 (mCB EL (aA (mC (.int 0)) (aA (aB vG (aB bJ (aB vAt (mV 3) (aB vAt (mV 1) (mV 8))) (mC (.int 2))) (aB yI (aB eZ (aL 2 aW (aA (mV 6) (aA (aB bJ (mC (.int 9)) (mV 8)) aC))) (mC (.int 5))) (aB bJ (mC (.int 1)) (aB eZ (aL 2 aW (aA (mV 6) (aA (mC (.int 8)) aC))) (mC (.int 5)))))) aC))))
   (aG (aX (aK (aB vEq (aB vAt (mV 1) (mV 8)) (mV 4)))
    (aS 9 (aB vAt (mV 3) (mV 4)))
    bP)
   (aX (aK (aB vGt (mV 9) (mC (.int 0))))
    (kG (mMt isL (onL bA) (mV 7) (aA (bK (aA (aB vAt (mV 1) (mV 8)) (aA (mV 9) aC))) aC)))
    bP)))
def iJ:Ms:=
 (aG (aS 4 (aB vAt (mV 1) (aB eZ (aL 2 aW (aA (mV 6) (aA (mC (.int 1)) aC))) (mC (.int 3)))))
  (aG (aS 7 (eJ aC))
  (aG (cT (iG (aA (mC (.int 3)) aC)) (gN 8) iI)
  (aG (gW (aB bJ (aB vAt (mV 3) (mV 4)) (mC (.int 1))) (mV 3) (mV 4))
  (aG (aS 10 (aL 4 FD (aA (mV 6) (aA (mCB tR (aA (mV 5) aC)) (aA (mV 5) (aA (mV 2) aC))))))
  (kG (mMt isL (onL bA) (mV 5) (aA (bK (aA (bK (aA (mV 4) (aA (aB vAt (mV 3) (mV 4)) aC))) (aA (mCB pX (aA (mV 7) aC)) (aA (mV 10) aC)))) aC))))))))
def zF:Ms:=
 (aG (aS 1 (aL 1 zE (aA (aB vAt (aB kO (mV 0) (eJ (aA (mC (.int 0)) aC))) (mC (.int 0))) aC)))
 (aG (aS 2 (aL 1 qJ (aA (aB vAt (aB kO (mV 0) (eJ (aA (mC (.int 0)) aC))) (mC (.int 0))) aC)))
 (aG (aS 3 cK)
 (aG (cT (aU (mV 1)) (gN 4) qK)
 (aG (aS 5 (eJ aC))
 (aG (cT (aU (mSl (mV 0) kE (mP (mC (.int 50))))) (gN 6) iJ)
 (aV (mV 5))))))))
def zG:Fn:=mFn 11 zF
def uH:Ms:=
 (aV (bK (aA (mCB Ao (aA (bV [none,none] (aU (aB vAt (mV 0) (mC (.int 1)))) (gTp 2 (gCn (gN 0) (gCn (gN 1) gNl))) mI (mV 1)) aC)) (aA (aB vAt (aB vAt (mV 0) (mC (.int 0))) (mC (.int 0))) (aA (aB vAt (aB vAt (mV 0) (mC (.int 0))) (mC (.int 1))) aC)))))
def pA:Fn:=mFn 1 uH
def Bt:Ms:=
 (aG (aX (aK (aB vEq (mV 0) (mC (.str "add"))))
  (aV (mC (.str "count")))
  bP)
 (aG (aX (aK (aB vEq (mV 0) (mC (.str "choose"))))
  (aV (mC (.str "choice")))
  bP)
 (aV (mC (.str "bag")))))
def zH:Fn:=mFn 1 Bt
def uI:Ms:=
 (aX (jR (aK (aB vEq (mV 3) (aB vAt (mV 2) (mC (.int 1))))) (aK (aB vEq (aB vAt (mV 5) (mC (.int 0))) (mC (.str "make")))))
   (aV (aB vNe (aB vAt (mV 5) (mC (.int 1))) (aL 1 zH (aA (aB vAt (mV 2) (mC (.int 0))) aC))))
   bP)
def Bu:Ms:=
 (aG (aS 2 (aB vAt (aB vAt (mV 0) (mV 1)) (mC (.int 2))))
 (aG (aX (aK (aB vEq (aB vAt (mV 2) (mC (.int 0))) (mC (.str "make"))))
  (aV (mC (.bl false)))
  bP)
 (aG (cT (aU (mSl (mV 0) kE (mP (mV 1)))) (gTp 3 (gCn (gN 3) (gCn (gN 4) (gCn (gN 5) gNl)))) uI)
 (aV (mC (.bl true))))))
def Bv:Fn:=mFn 6 Bu
def jC:Ms:=
 (aX (jR (aK (aB vEq (mV 2) (aB vAt (mV 1) (mC (.int 0))))) (aK (aB vLe (aB vAt (mV 1) (mC (.int 1))) (mV 3))))
   (aV (mC (.bl true)))
   bP)
def mT:Ms:=
 (aG (cT (aU (mV 0)) (gTp 2 (gCn (gN 2) (gCn (gN 3) gNl))) jC)
 (aV (mC (.bl false))))
def jD:Fn:=mFn 4 mT
def uJ:Ms:=
 (aG (aX (tQ (aK (aB vEq (aB vAt (mV 7) (mC (.int 0))) (mC (.str "make")))) (tQ (aK (aB vNe (aB vAt (mV 7) (mC (.int 1))) (aB vAt (mV 4) (mC (.int 1))))) (lQ (aK (aL 2 jD (aA (mV 6) (aA (mV 2) aC)))))))
   Hs
   bP)
  (aG (aX (jR (aK (aB vEq (aB vAt (mV 4) (mC (.int 0))) (mC (.str "choose")))) (aK (aB vEq (aB vAt (mV 7) (mC (.int 0))) (mC (.str "choose")))))
   (aV (bK (aA (mC (.str "outdone")) (aA (mV 5) aC))))
   bP)
  (aX (jR (aK (aB vEq (aB vAt (mV 4) (mC (.int 0))) (mC (.str "put")))) (jR (aK (aB vEq (aB vAt (mV 7) (mC (.int 0))) (mC (.str "take")))) (aK (aB vEq (aB vAt (mV 7) (mC (.int 2))) (aB vAt (mV 4) (mC (.int 2)))))))
   (aV (bK (aA (mC (.str "outdone")) (aA (mV 5) aC))))
   bP)))
def Bw:Ms:=
 (aG (kF (aB vAt (mV 0) (mV 1)) (gTp 3 (gCn (gN 2) (gCn (gN 3) (gCn (gN 4) gNl)))))
 (aG (aX (aK (aL 2 Bv (aA (mV 0) (aA (mV 1) aC))))
  (aV (bK (aA (mC (.str "idle")) aC)))
  bP)
 (aG (cT (aU (mSl (mV 0) (mP (aB bJ (mV 1) (mC (.int 1)))) kE)) (gTp 3 (gCn (gN 5) (gCn (gN 6) (gCn (gN 7) gNl)))) uJ)
 (aV (bK (aA (mC (.str "stands")) aC))))))
def uK:Fn:=mFn 8 Bw
def fM:Ms:=
 (aG (cL "made" (mV 0) cK)
 (cL "failed" (mV 0) (eJ aC)))
def fN:Fn:=mFn 1 fM
def lY:Ms:=
 cS
def kQ:Ms:=
 (aG (cL "made" (mV 0) cK)
 (aG (cT (aU (mV 1)) (gTp 4 (gCn (gN 3) (gCn (gN 4) (gCn (gN 5) (gCn (gN 6) gNl))))) lY)
 (cL "failed" (mV 0) (mCB wL (aA (mV 2) aC)))))
def gY:Fn:=mFn 7 kQ
def zI:Str->Option Fn:=λ(z:Str)=>if z=("Tree" : Str) then some gY else(λ_=>none) z
def fE:Ms:=
 (aG cS
  cS)
def dI:Ms:=
 (aG (kF (mV 1) (gTp 2 (gCn (gN 2) (gCn (gN 3) gNl))))
 (aG (cL "tree" (mV 0) (gA "Tree" 0 fN aC))
 (aG (kG (fD "fill" 2 zI (mUn (bL "tree") (mV 0)) (aA (bV [none] (aU (mV 2)) (gN 0) mI (mSl (mV 0) kE (mP (mC (.int 4))))) (aA (mV 3) aC))))
 (aG (cL "leaves" (mV 0) cK)
 (cT (aU (mV 2)) (gTp 5 (gCn (gN 4) (gCn (gN 5) (gCn (gN 6) (gCn (gN 7) (gCn (gN 8) gNl)))))) fE)))))
def dJ:Fn:=mFn 9 dI
def zJ:Ms:=
 (aV (bK (aA (eJ aC) (aA (eJ aC) aC))))
def sF:Fn:=mFn 0 zJ
def dM:Ms:=
 (aG (cL "undone" (mV 0) cK)
 (aG (cL "placers" (mV 0) cK)
 (aG (cL "numbers" (mV 0) cK)
 (aG (cL "writers" (mV 0) cK)
 (cL "signs_left" (mV 0) cK)))))
def dN:Fn:=mFn 1 dM
def jE:Ms:=
 (aG (aS 2 (aB vAt (mV 1) (mC (.int 2))))
 (aX (aK (aB vEq (aB vAt (mV 2) (mC (.int 0))) (mC (.str "add"))))
  (Cj "total" (mV 0) (aB vAt (mV 2) (mC (.int 2))))
  bP))
def eB:Fn:=mFn 3 jE
def mU:Ms:=
 (aX (aK (aB vEq (mV 2) (aB vAt (mV 1) (mC (.int 0)))))
   (aV (aB vLe (aB vAt (mV 1) (mC (.int 1))) (mV 3)))
   bP)
def uL:Ms:=
 (aG (cT (aU (mV 0)) (gTp 2 (gCn (gN 2) (gCn (gN 3) gNl))) mU)
 (aV (mC (.bl false))))
def fF:Fn:=mFn 4 uL
def iC:Ms:=
 (aG (kF (mV 1) (gTp 3 (gCn (gN 2) (gCn (gN 3) (gCn (gN 4) gNl)))))
 (aX (aK (aB vEq (aB vAt (mV 4) (mC (.int 0))) (mC (.str "choose"))))
  (aG (aS 5 (bV [none,some 3] (aU (mUn (bL "standing") (mV 0))) (gN 0) (lQ (aK (aL 2 fF (aA (mV 1) (aA (aB vAt (mV 0) (mC (.int 0))) aC))))) (mV 0)))
  (cL "standing" (mV 0) (aB bJ (mV 5) (eJ (aA (bK (aA (mV 2) (aA (aB vAt (mV 4) (mC (.int 2))) aC))) aC)))))
  bP))
def cX:Fn:=mFn 6 iC
def jF:Ms:=
 (aG (kF (mV 1) (gTp 3 (gCn (gN 2) (gCn (gN 3) (gCn (gN 4) gNl)))))
 (aX (aK (aB vEq (aB vAt (mV 4) (mC (.int 0))) (mC (.str "put"))))
  (cL "standing" (mV 0) (aB bJ (mUn (bL "standing") (mV 0)) (eJ (aA (bK (aA (mV 2) (aA (aB vAt (mV 4) (mC (.int 2))) aC))) aC))))
  (aX (aK (aB vEq (aB vAt (mV 4) (mC (.int 0))) (mC (.str "take"))))
   (cL "standing" (mV 0) (bV [none,some 4,some 3] (aU (mUn (bL "standing") (mV 0))) (gN 0) (tQ (aK (aB vNe (aB vAt (mV 0) (mC (.int 1))) (aB vAt (mV 1) (mC (.int 2))))) (lQ (aK (aL 2 fF (aA (mV 2) (aA (aB vAt (mV 0) (mC (.int 0))) aC)))))) (mV 0)))
   bP)))
def eL:Fn:=mFn 5 jF
def gH:Ms:=
 (aG (aX (aK (aB vEq (mV 1) (mC (.tup [.str "",.int (0)]))))
  (aV (mC (.str "map")))
  bP)
 (aV (mIf (aK (aB kI (mV 1) (mUn (bL "made") (mV 0)))) (aB vAt (aB vAt (mUn (bL "made") (mV 0)) (mV 1)) (mC (.int 0))) (mC .non))))
def bR:Fn:=mFn 2 gH
def eM:Str->Option Fn:=λ(z:Str)=>if z=("Tree" : Str) then some bR else(λ_=>none) z
def jG:Ms:=
 (aV (aB vEq (fD "kind_of" 1 eM (mV 0) (aA (mV 1) aC)) (mIf (aK (mCB vH (aA (mV 2) (aA (mC (.ty "str")) aC)))) (mC (.str "map")) (mC (.str "row")))))
def eC:Fn:=mFn 3 jG
def uM:Ms:=
 (aG (kF (mV 0) (gTp 2 (gCn (gN 2) (gCn (gN 3) gNl))))
 (aG (kF (mV 1) (gTp 2 (gCn (gN 4) (gCn (gN 5) gNl))))
 (aV (aB bJ (mV 2) (bK (aA (bK (aA (mV 3) (aA (mV 4) (aA (mV 5) (aA (mC (.int 0)) aC))))) aC))))))
def uN:Fn:=mFn 6 uM
def mW:Ms:=
 (aV (mIf (aK (mCB vH (aA (mV 0) (aA (mC (.ty "str")) aC)))) (mV 0) (aL 2 uN (aA (mV 0) (aA (mV 1) aC)))))
def jH:Fn:=mFn 2 mW
def uO:Str->Option Fn:=λ(z:Str)=>if z=("Tree" : Str) then some eC else(λ_=>none) z
def eO:Ms:=
 (aG (kF (mV 2) (gTp 4 (gCn (gN 3) (gCn (gN 4) (gCn (gN 5) (gCn (gN 6) gNl))))))
 (aG (aX (lQ (aK (fD "takes" 2 uO (mV 0) (aA (mV 5) (aA (mV 6) aC)))))
  cS
  bP)
 (aG (gW (bK (aA (mV 4) (aA (mV 5) (aA (aL 2 jH (aA (mV 6) (aA (mV 1) aC))) aC)))) (mUn (bL "made") (mV 0)) (mV 1))
 (aV (mC (.str "done"))))))
def eQ:Fn:=mFn 7 eO
def jI:Str->Option Fn:=λ(z:Str)=>if z=("Tree" : Str) then some eQ else(λ_=>none) z
def kR:Ms:=
 (aG (kF (mV 1) (gTp 3 (gCn (gN 2) (gCn (gN 3) (gCn (gN 4) gNl)))))
 (aG (aX (aK (aB vEq (aB vAt (mV 4) (mC (.int 0))) (mC (.str "make"))))
  (aV (fD "hear_make" 2 jI (mV 0) (aA (mV 2) (aA (mV 4) aC))))
  bP)
 (aG cS
 (aG cS
 cS))))
def dU:Fn:=mFn 5 kR
def bM:Ms:=
 (aX (jR (aK (aL 2 fF (aA (mV 4) (aA (aB vAt (mV 7) (mC (.int 0))) aC)))) (tQ (aK (aB vEq (aB vAt (mV 7) (mC (.int 1))) (aB vAt (mV 5) (mC (.int 2))))) (lQ (aK (mV 2)))))
   (gW (mV 3) (mUn (bL "undone") (mV 0)) (aB vAt (mV 7) (mC (.int 0))))
   (kG (mMt isL (onL bA) (mV 6) (aA (mV 7) aC))))
def bX:Ms:=
 (aG (kF (mV 1) (gTp 3 (gCn (gN 3) (gCn (gN 4) (gCn (gN 5) gNl)))))
 (aG (aS 6 (eJ aC))
 (aG (cT (aU (mMt bO kJ (mUn (bL "numbers") (mV 0)) (aA (aB vAt (mV 5) (mC (.int 1))) (aA (eJ aC) aC)))) (gN 7) bM)
 (gW (mV 6) (mUn (bL "numbers") (mV 0)) (aB vAt (mV 5) (mC (.int 1)))))))
def bB:Fn:=mFn 8 bX
def cZ:Str->Option Fn:=λ(z:Str)=>if z=("Undoing" : Str) then some bB else(λ_=>none) z
def eD:Ms:=
 (aG (kF (mV 1) (gTp 3 (gCn (gN 2) (gCn (gN 3) (gCn (gN 4) gNl)))))
 (aX (aK (aB vEq (aB vAt (mV 4) (mC (.int 0))) (mC (.str "make"))))
  (gW (mV 2) (mUn (bL "placers") (mV 0)) (mV 2))
  (aX (aK (aB kI (aB vAt (mV 4) (mC (.int 0))) (bK (aA (mC (.str "move")) (aA (mC (.str "drop")) aC)))))
   (aG cS
   cS)
   (aX (aK (aB vEq (aB vAt (mV 4) (mC (.int 0))) (mC (.str "choose"))))
    (aG (kG (fD "undo_numbers" 2 cZ (mV 0) (aA (mV 1) (aA (mC (.bl false)) aC))))
    (kG (mMt isL (onL bA) (aB vAt (mUn (bL "numbers") (mV 0)) (aB vAt (mV 4) (mC (.int 1)))) (aA (bK (aA (mV 2) (aA (aB vAt (mV 4) (mC (.int 2))) aC))) aC))))
    (aX (aK (aB vEq (aB vAt (mV 4) (mC (.int 0))) (mC (.str "put"))))
     (kG (mMt isL (onL bA) (mMt bO eY (mUn (bL "numbers") (mV 0)) (aA (aB vAt (mV 4) (mC (.int 1))) (aA (eJ aC) aC))) (aA (bK (aA (mV 2) (aA (aB vAt (mV 4) (mC (.int 2))) aC))) aC)))
     (aX (aK (aB vEq (aB vAt (mV 4) (mC (.int 0))) (mC (.str "take"))))
      (kG (fD "undo_numbers" 2 cZ (mV 0) (aA (mV 1) (aA (mC (.bl true)) aC))))
      (aX (aK (aB vEq (aB vAt (mV 4) (mC (.int 0))) (mC (.str "write"))))
       cS
       (aX (aK (aB vEq (aB vAt (mV 4) (mC (.int 0))) (mC (.str "cut"))))
        cS
        bP))))))))
def bF:Fn:=mFn 5 eD
def eR:Ms:=
 (cL "total" (mV 0) (mC (.int 0)))
def iK:Fn:=mFn 1 eR
def gZ:Ms:=
 (cL "standing" (mV 0) (eJ aC))
def eG:Fn:=mFn 1 gZ
def kT:Ms:=
 (cL "standing" (mV 0) (eJ aC))
def gI:Fn:=mFn 1 kT
def qL:Ms:=
 (aG (aX (aK (aB vEq (mV 0) (mC (.str "count"))))
  (aV (gA "Count" 0 iK aC))
  bP)
 (aG (aX (aK (aB vEq (mV 0) (mC (.str "choice"))))
  (aV (gA "Choice" 0 eG aC))
  bP)
 (aG (aX (aK (aB vEq (mV 0) (mC (.str "bag"))))
  (aV (gA "Bag" 0 gI aC))
  bP)
 (aG (aX (aK (aB vEq (mV 0) (mC (.str "text"))))
  cS
  bP)
 (aV (mC .non))))))
def qM:Fn:=mFn 1 qL
def dO:Ms:=
 (aG (aS 3 (aL 1 qM (aA (mV 2) aC)))
 (aX (aK (aB kC (mV 3) (mC .non)))
  (gW (mV 3) (mUn (bL "leaves") (mV 0)) (mV 1))
  bP))
def dQ:Fn:=mFn 4 dO
def cO:Str->Option Fn:=λ(z:Str)=>if z=("Count" : Str) then some eB else(λ(z:Str)=>if z=("Choice" : Str) then some cX else(λ(z:Str)=>if z=("Bag" : Str) then some eL else(λ(z:Str)=>if z=("Tree" : Str) then some dU else(λ(z:Str)=>if z=("Undoing" : Str) then some bF else(λ_=>none) z) z) z) z) z
def kU:Str->Option Fn:=λ(z:Str)=>if z=("Folding" : Str) then some dQ else(λ_=>none) z
def cU:Ms:=
 (aG (aS 2 (fD "hear" 1 cO (mUn (bL "tree") (mV 0)) (aA (mV 1) aC)))
 (aG (aS 3 (aB vAt (mV 1) (mC (.int 2))))
 (aG (aX (jR (aK (aB vEq (aB vAt (mV 3) (mC (.int 0))) (mC (.str "make")))) (aK (aB vEq (mV 2) (mC (.str "done")))))
  (kG (fD "add_leaf" 2 kU (mV 0) (aA (aB vAt (mV 1) (mC (.int 0))) (aA (aB vAt (mV 3) (mC (.int 1))) aC))))
  bP)
 (aV (mV 2)))))
def bQ:Fn:=mFn 4 cU
def mX:Ms:=
 (aV (mUn (vGd [("add","count"),("choose","choice"),("put","bag"),("take","bag"),("write","text"),("cut","text"),("mark","text"),("clear","text")]) (mV 0)))
def jJ:Fn:=mFn 1 mX
def jK:Str->Option Fn:=λ(z:Str)=>if z=("Folding" : Str) then some bQ else(λ_=>none) z
def gJ:Ms:=
 (aG (aS 2 (aB vAt (mV 1) (mC (.int 2))))
 (aG (aX (aK (aB kI (aB vAt (mV 2) (mC (.int 0))) (bK (aA (mC (.str "make")) (aA (mC (.str "move")) (aA (mC (.str "drop")) aC))))))
  (aV (fD "hear_tree" 1 jK (mV 0) (aA (mV 1) aC)))
  bP)
 (aG (aX (aK (aB cY (aB vAt (mV 2) (mC (.int 0))) (bK (aA (mC (.str "back")) (aA (mC (.str "settle")) aC)))))
  (aG (aX (aK (aB vNe (fD "kind_of" 1 eM (mUn (bL "tree") (mV 0)) (aA (aB vAt (mV 2) (mC (.int 1))) aC)) (aL 1 jJ (aA (aB vAt (mV 2) (mC (.int 0))) aC))))
   (aV (mC (.str "idle")))
   bP)
  (kG (fD "hear" 1 cO (aB vAt (mUn (bL "leaves") (mV 0)) (aB vAt (mV 2) (mC (.int 1)))) (aA (mV 1) aC))))
  bP)
 (aV (mC (.str "done"))))))
def cM:Fn:=mFn 3 gJ
def dW:Str->Option Fn:=λ(z:Str)=>if z=("Count" : Str) then some eB else(λ(z:Str)=>if z=("Choice" : Str) then some cX else(λ(z:Str)=>if z=("Bag" : Str) then some eL else(λ(z:Str)=>if z=("Tree" : Str) then some dU else(λ(z:Str)=>if z=("Folding" : Str) then some cM else(λ(z:Str)=>if z=("Undoing" : Str) then some bF else(λ_=>none) z) z) z) z) z) z
def bY:Ms:=
 (aG (kF (mV 4) (gTp 3 (gCn (gN 5) (gCn (gN 6) (gCn (gN 7) gNl)))))
  (aG (aS 8 (fD "hear" 1 dW (mV 1) (aA (mV 4) aC)))
  (aX (aK (aB vEq (mV 8) (mC (.str "lost"))))
   cS
   (aX (aK (aB vEq (mV 8) (mC (.str "idle"))))
    (gW (bK (aA (mC (.str "idle")) aC)) (mV 3) (mV 5))
    (kG (fD "hear" 1 dW (mV 2) (aA (mV 4) aC)))))))
def dR:Ms:=
 (gW (bK (aA (mC (.str "outdone")) (aA (mV 9) aC))) (mV 3) (mV 5))
def eS:Ms:=
 (aG (aS 1 (gA "Folding" 1 dJ (aA (zB sF) aC)))
 (aG (aS 2 (gA "Undoing" 0 dN aC))
 (aG (aS 3 cK)
 (aG (cT (aU (mV 0)) (gN 4) bY)
 (aG (qE true (An bO gX (mUn (bL "undone") (mV 2))) (cT (uG true (An bO gX (mUn (bL "undone") (mV 2)))) (gTp 2 (gCn (gN 5) (gCn (gN 9) gNl))) dR))
 (aV (mV 3)))))))
def eT:Fn:=mFn 10 eS
def sG:Ms:=
 (aV (aB bJ (mC (.int 1)) (mCB Ao (aA (bV [none] (aU (aB vAt (mV 0) (mC (.int 1)))) (gN 0) mI (aB vAt (mV 0) (mC (.int 1)))) aC))))
def zK:Fn:=mFn 1 sG
def Bx:Ms:=
 (aG (kF (aB vAt (mV 0) (mC (.int 0))) (gTp 2 (gCn (gN 1) (gCn (gN 2) gNl))))
 (aV (bK (aA (aL 1 zK (aA (mV 0) aC)) (aA (mV 1) (aA (mV 2) aC))))))
def By:Fn:=mFn 3 Bx
def jL:Ms:=
 (gW (mV 2) (mV 1) (aB vAt (mV 2) (mC (.int 0))))
def mY:Ms:=
 (aG (aS 1 cK)
 (aG (cT (aU (mV 0)) (gN 2) jL)
 (aV (jB By false (An bO wW (mV 1))))))
def dS:Fn:=mFn 3 mY
def qN:Ms:=
 (aV (aB vAt (mV 0) (mC (.int 0))))
def lJ:Fn:=mFn 1 qN
def pB:Ms:=
 (aG cS
  cS)
def mZ:Ms:=
 (aG (cT (aU (mV 1)) (gN 2) pB)
 (aV (mC .non)))
def jM:Fn:=mFn 6 mZ
def nB:Ms:=
 (aG (kF (aB vAt (mV 3) (mC (.int 0))) (gTp 2 (gCn (gN 4) (gCn (gN 5) gNl))))
  (aG (aS 6 (aB vAt (aB vAt (mV 3) (mC (.int 2))) (mC (.int 0))))
  (aG (aX (aK (aB vEq (mV 6) (mC (.str "settle"))))
   (aG cS
   cS)
   bP)
  (aG (aS 7 (aL 2 jM (aA (mV 5) (aA (mMt bO kJ (mV 2) (aA (mV 4) (aA (eJ aC) aC))) aC))))
  (aX (aK (aB kC (mV 7) (mC .non)))
   cS
   (aX (aK (aB vEq (mV 6) (mC (.str "back"))))
    cS
    bP))))))
def uP:Ms:=
 (aG (aS 1 cK)
 (aG (aS 2 cK)
 (aG (cT (aU (jB lJ true (mV 0))) (gN 3) nB)
 (aV (mV 1)))))
def pC:Fn:=mFn 8 uP
def nC:Ms:=
 (aG (aS 1 (aL 1 dS (aA (mV 0) aC)))
 (aG (aS 2 (aL 1 pC (aA (mV 1) aC)))
 (aV (bV [none,some 2] (aU (mV 1)) (gN 0) (aK (aB cY (aB vAt (mV 0) (mC (.int 0))) (mV 1))) (mV 0)))))
def nD:Fn:=mFn 3 nC
def nF:Ms:=
 (aG (aS 1 (aL 1 dS (aA (mV 0) aC)))
 (aG (aS 2 (aL 1 pC (aA (mV 1) aC)))
 (aV (bV [none,some 2] (aU (mV 1)) (gN 0) (aK (aB kI (aB vAt (mV 0) (mC (.int 0))) (mV 1))) (bK (aA (aB vAt (mV 0) (mC (.int 0))) (aA (aB vAt (mV 1) (aB vAt (mV 0) (mC (.int 0)))) aC)))))))
def nG:Fn:=mFn 3 nF
def xF:Ms:=
 cS
def zL:Ms:=
 (aG (aS 1 (aL 1 eT (aA (aL 1 nD (aA (mV 0) aC)) aC)))
 (aG (cT (aU (aL 1 nG (aA (mV 0) aC))) (gTp 2 (gCn (gN 2) (gCn (gN 3) gNl))) xF)
 (aV (bV [none,some 1] (aU (aL 1 dS (aA (mV 0) aC))) (gN 0) mI (bK (aA (aB vAt (mV 0) (mC (.int 0))) (aA (mMt bO kJ (mV 1) (aA (aB vAt (mV 0) (mC (.int 0))) (aA (bK (aA (mC (.str "stands")) aC)) aC))) aC)))))))
def pD:Fn:=mFn 4 zL
def FF:Ms:=
 (aG (aS 1 (aL 1 zG (aA (mV 0) aC)))
 (aG (aS 2 (jB pA false (mV 1)))
 (aG (aS 3 (bV [none,some 2] (iG (aA (mCB tR (aA (mV 2) aC)) aC)) (gN 0) mI (bK (aA (aB vAt (aB vAt (mV 1) (mV 0)) (mC (.int 0))) (aA (aL 2 uK (aA (mV 1) (aA (mV 0) aC))) aC)))))
 (aG (aS 4 (aB eZ (aB Di (mCB Ao (aA (mSl (mV 0) (mP (mUn Ak (mC (.int 1)))) kE) aC)) (mC (.int 4))) (aB bJ (mCB tR (aA (mV 1) aC)) (mC (.int 1)))))
 (aG (aS 5 (aL 1 pD (aA (aB bJ (mSl (mV 1) (mP (mV 4)) kE) (mSl (mV 1) kE (mP (mV 4)))) aC)))
 (aV (wK (mCB vH (aA (mV 5) (aA (mC (.ty "list")) aC))) (wK (aB vEq (mV 5) (mV 3)) (aB vEq (aL 1 pD (aA (mUn oZ (mV 1)) aC)) (mV 3))))))))))
def FG:Fn:=mFn 6 FF
end
end K73
namespace K73
open PySem L2
abbrev Seen:=List (Str×Int)
def look:Seen->Str->Option Int
 |[],_=>none
 |p::r,h=>if p.1=h then some p.2 else look r h
theorem cD(p:Str×Int)(r:Seen)(h:Str):look (p::r) h=if p.1=h then some p.2 else look r h:=(rfl)
def dput(kvs:Seen)(h:Str)(n:Int):Seen:=if(look kvs h).isSome then kvs.map (λp=>if p.1=h then(p.1,n) else p) else kvs++[(h,n)]
def emb(kvs:Seen):List (Key×PV):=kvs.map λp=>(.inr p.1,.int p.2)
def row(p:Str×Int):List Key:=[.inr p.1,.inl p.2]
def sv(S:Seen):PV:=.tup (S.map λp=>.tup [.str p.1,.int p.2])
theorem uQ(h:Str):∀kvs:Seen,aM (emb kvs) (.inr h)=(look kvs h).map PV.int
 |[]=>rfl
 |p::r=>by
  show aM ((Rg p.1,PV.int p.2)::emb r) (.inr h)=_
  unfold aM look
  by_cases e:p.1=h
  ·rw[if_pos e,if_pos (by rw[e])];rfl
  ·rw[if_neg e,if_neg (by simpa using e)];exact uQ h r
theorem Cp(kvs:Seen)(h:Str)(n:Int):fB (emb kvs) (.inr h) (.int n)=emb (dput kvs h n):=by
 unfold fB dput;rw[uQ];cases look kvs h with
 |none=>simp[emb]
 |some m=>
  simp only[SJ,Ss,if_true];unfold emb;rw[Qw,Qw];apply Rp;intro p _
  by_cases e:p.1=h
  ·simp[e]
  ·simp[e]
variable{S:Seen}
theorem Cq{h:Str}{n:Int}:(dput S h n).length<=S.length+1:=by
 unfold dput;split <;> simp
abbrev FH:Str:="abcdefghijklmnopqrstuvwxyz"
theorem FI:FH.cps.toList.length=26:=by decide +kernel
theorem xG:FH.length=26:=by decide +kernel
theorem FJ:∀i:Fin 26,FH.cps.toList[i.val]?=some (97+i.val):=by decide +kernel
variable{c:Nat}
theorem uR{x:Str}:(x++(⟨#[c]⟩:Str)).length=x.length+1:=by
 rw[Str.length_append];rfl
theorem I0{i:Int}(h0:0<=i)(h1:i<26):atI FH.cps.toList i=some (97+i.toNat):=by
 rw[HA h0 (by rw[FI];exact h1)];exact FJ ⟨i.toNat,by omega⟩
theorem app_list(x y:Str):(x++y).cps.toList=x.cps.toList++y.cps.toList:=PySem.W.KT.app_list x y
variable{j:Int}{z:Str}
theorem FK(h0:0<=j)(h1:j<=z.length):(Sv z none (some j)).cps.toList=z.cps.toList.take j.toNat:=by
 have iq:j<=z.cps.toList.length:=by simpa[Str.length] using h1
 have e:Sv z none (some j)=⟨((z.cps.toList.drop 0).take (j-0).toNat).toArray⟩:=StrLaws.sliceText_to ⟨h0,iq⟩;rw[e];simp
theorem len_list(z:Str):z.cps.toList.length=z.length:=by simp[Str.length]
def pv(p:Str×Int):PV:=.tup [.str p.1,.int p.2]
theorem AE(S:Seen):sv S=.tup (S.map pv):=rfl
variable{h:PH}{o:MO}
theorem Cr{hX:PH}(x:Ext h hX):Ext h (hX.set h.length o):=λn o' e=>by
 have hn:=(Pv.mp e).1;rw[QQ (by omega)];exact x n o' e
variable{p:Str×Int}
theorem pv0:vIx (pv p) (.int 0) h=.ok (.str p.1) h:=by unfold pv;simp
theorem pv1:vIx (pv p) (.int 1) h=.ok (.int p.2) h:=by unfold pv;simp
theorem nH{q:Str×Int}(e:pv p=pv q):p=q:=by
 unfold pv at e;have e':=PV.tup.inj e;simp at e';exact Prod.ext e'.1 e'.2
theorem N6:(PV.tup [.str p.1,.int p.2]).ky 6=true:=rfl
abbrev Nm:=Str×Int
abbrev root:Nm:=("",0)
def fnd{β:Type}:List (Nm×β)->Nm->Option β
 |[],_=>none
 |x::M,p=>if x.1=p then some x.2 else fnd M p
theorem pE{β:Type}(x:Nm×β)(M:List (Nm×β))(p:Nm):fnd (x::M) p=if x.1=p then some x.2 else fnd M p:=rfl
def pF{β:Type}(f:β->PV)(x:Nm×β):PV×PV:=(pv x.1,f x.2)
def uS{β:Type}(M:List (Nm×β))(p:Nm)(r:β):List (Nm×β):=if(fnd M p).isSome then M.map (λx=>if x.1=p then(x.1,r) else x) else M++[(p,r)]
variable{n:Nat}
theorem xH{p:Nm}:(pv p).pl (n+1)=true:=by cases n <;> rfl
theorem nI{β:Type}(f:β->PV)(p:Nm):∀M:List (Nm×β),aM (M.map (pF f)) (pv p)=(fnd M p).map f
 |[]=>rfl
 |x::M=>by
  rw[P0]
  show aM ((pv x.1,f x.2)::M.map (pF f)) (pv p)=_
  unfold aM fnd
  by_cases e:x.1=p
  ·rw[if_pos (by rw[e]),if_pos e];rfl
  ·rw[if_neg (λz=>e (nH z)),if_neg e,nI f p M]
theorem IZ{β:Type}(f:β->PV)(M:List (Nm×β))(p:Nm)(r:β):fB (M.map (pF f)) (pv p) (f r)=(uS M p r).map (pF f):=by
 unfold fB uS;rw[nI];cases e:fnd M p with
 |none=>simp[pF]
 |some z=>
  simp only[SJ,Ss,if_true,Qw];apply Rp;intro x _
  show(if pv x.1=pv p then(pv x.1,f r) else pF f x)=pF f (if x.1=p then(x.1,r) else x)
  by_cases e:x.1=p
  ·rw[if_pos (show pv x.1=pv p by rw[e]),if_pos e];rfl
  ·rw[if_neg (show ¬ pv x.1=pv p from λz=>e (nH z)),if_neg e]
theorem Ia{β:Type}(M:List (Nm×β))(p:Nm)(r:β)(q:Nm):fnd (M.map λx=>if x.1=p then(x.1,r) else x) q=if q=p then(fnd M p).map (λ_=>r) else fnd M q:=by
 induction M with
 |nil=>simp[fnd]
 |cons x M ih=>
  rw[P0];unfold fnd;rw[ih]
  by_cases h1:x.1=p
  ·rw[if_pos h1]
   by_cases h2:q=p
   ·rw[if_pos (show x.1=q by rw[h1,h2]),if_pos h2,if_pos h1];rfl
   ·have h3:¬ x.1=q:=λz=>h2 (z▸h1);rw[if_neg (show ¬ x.1=q from h3),if_neg h2,if_neg h2,if_neg h3]
  ·rw[if_neg h1]
   by_cases h2:q=p
   ·have h3:¬ x.1=q:=λz=>h1 (z.trans h2);rw[if_neg h3,if_pos h2,if_pos h2,if_neg h1]
   ·rw[if_neg h2,if_neg h2]
theorem Cs{β:Type}(M N:List (Nm×β))(q:Nm):fnd (M++N) q=(fnd M q).or (fnd N q):=by
 induction M with
 |nil=>simp[fnd]
 |cons x M ih=>
  rw[List.cons_append,pE,pE]
  by_cases h:x.1=q
  ·rw[if_pos h,if_pos h];rfl
  ·rw[if_neg h,if_neg h,ih]
theorem AF{β:Type}(M:List (Nm×β))(p:Nm)(r:β)(q:Nm):fnd (uS M p r) q=if q=p then some r else fnd M q:=by
 unfold uS;cases e:fnd M p with
 |some z=>simp only[Ss,if_true];rw[Ia,e];rfl
 |none=>
  simp only[Option.isSome_none,Qh,if_false];rw[Cs]
  by_cases h:q=p
  ·rw[if_pos h,h,e];simp[fnd]
  ·rw[if_neg h];have:fnd [(p,r)] q=none:=by unfold fnd;rw[if_neg (λz=>h z.symm)];rfl
   rw[this];cases fnd M q <;> rfl
theorem sH{β:Type}{M:List (Nm×β)}{p:Nm}:(fnd M p).isSome=true↔p∈M.map (·.1):=by
 induction M with
 |nil=>simp[fnd]
 |cons x M ih=>
  unfold fnd
  by_cases e:x.1=p
  ·rw[if_pos e];simp[e]
  ·rw[if_neg e,ih,P0,P5];exact⟨.inr,λz=>z.resolve_left λq=>e q.symm⟩
theorem DL{β:Type}(M:List (Nm×β))(p:Nm)(r:β):(uS M p r).map (·.1)=if p∈M.map (·.1) then M.map (·.1) else M.map (·.1)++[p]:=by
 unfold uS
 by_cases e:(fnd M p).isSome=true
 ·rw[if_pos e,if_pos (sH.mp e),Qw];apply Rp;intro x _
  show(if x.1=p then(x.1,r) else x).1=x.1
  split <;> rfl
 ·rw[if_neg e,if_neg (λz=>e (sH.mpr z)),Qq];rfl
theorem AG{β:Type}(M:List (Nm×β))(p:Nm)(r:β):(uS M p r).length<=M.length+1:=by
 unfold uS;split
 ·rw[PC];omega
 ·simp
variable{kvs:List (PV×PV)}{xs:List PV}
theorem N7{p:PV}(e:bI h n=some kvs)(hk:(PV.tup xs).ky 6=true)(hl:aM kvs (.tup xs)=some p):vAt (.ref n) (.tup xs) h=.ok p h:=by
 have k1:(PV.tup xs).isKt=true:=hk;have:fK (.tup xs) (.ref n) h=some (aM kvs (.tup xs)):=by simp only[fK,k1,if_true,e,SJ]
 unfold vAt;rw[this,hl]
def Tb(h:PH)(n c:Nat)(f:Nm->Option PV):Prop:=∃E:List (Nm×PV),bI h n=some (E.map (pF id))/\E.length<=c/\(E.map (·.1)).Nodup/\∀x,fnd E x=f x
def upN(f:Nm->Option PV)(x:Nm)(v:PV):Nm->Option PV:=λy=>if y=x then some v else f y
variable{h':PH}
theorem Ib(t:bI h n=some kvs)(k:∀o,h[n]?=some o->h'[n]?=some o):bI h' n=some kvs:=by
 obtain⟨o,ho,_,hh⟩:=fY t;exact hh _ (k o ho)
theorem KJ{z:PV}(e:bI h n=some kvs)(hk:(PV.tup xs).ky 6=true):kJ (.ref n) [.tup xs,z] h=.ok ((aM kvs (.tup xs)).getD z) h:=by
 have k1:(PV.tup xs).isKt=true:=hk;have:fK (.tup xs) (.ref n) h=some (aM kvs (.tup xs)):=by simp only[fK,k1,if_true,e,SJ]
 unfold kJ dG;simp only[this]
theorem Tb.nil(e:h[n]?=some (.dK [])):Tb h n 0 λ_=>none:=⟨[],Cg e,PD _,List.nodup_nil,λ_=>rfl⟩
variable{f:Nm->Option PV}
theorem Tb.keep(t:Tb h n c f)(k:∀o,h[n]?=some o->h'[n]?=some o):Tb h' n c f:=let ⟨E,a,b⟩:=t;⟨E,Ib a k,b⟩
theorem Tb.ext(t:Tb h n c f)(x:Ext h h'):Tb h' n c f:=t.keep λo e=>x _ _ e
variable{c':Nat}
theorem Tb.more(t:Tb h n c f)(hc:c<=c'):Tb h n c' f:=let ⟨E,a,b,d⟩:=t;⟨E,a,Qb b hc,d⟩
theorem Tb.dict(t:Tb h n c f):bO (.ref n) h=true:=let ⟨_,a,_⟩:=t;let ⟨_,_,d,_⟩:=fY a;d
theorem Tb.has(t:Tb h n c f)(x:Nm):kI (pv x) (.ref n) h=.ok (.bl (f x).isSome) h:=by
 obtain⟨E,a,_,_,e⟩:=t;have:kI (pv x) (.ref n) h=.ok (.bl (aM (E.map (pF id)) (pv x)).isSome) h:=Ku a rfl;rw[this,nI,R5,e]
theorem Tb.hasNo(t:Tb h n c f)(x:Nm):cY (pv x) (.ref n) h=.ok (.bl (!(f x).isSome)) h:=by
 obtain⟨E,a,_,_,e⟩:=t;have:cY (pv x) (.ref n) h=.ok (.bl (!(aM (E.map (pF id)) (pv x)).isSome)) h:=DA a rfl;rw[this,nI,R5,e]
theorem Tb.at'(t:Tb h n c f){x:Nm}{v:PV}(q:f x=some v):vAt (.ref n) (pv x) h=.ok v h:=by
 obtain⟨E,a,_,_,e⟩:=t;exact N7 a rfl (by show aM _ (pv x)=_;rw[nI,e,q];rfl)
theorem Tb.get(t:Tb h n c f)(x:Nm)(z:PV):kJ (.ref n) [pv x,z] h=.ok ((f x).getD z) h:=by
 obtain⟨E,a,_,_,e⟩:=t;have:kJ (.ref n) [pv x,z] h=.ok ((aM (E.map (pF id)) (pv x)).getD z) h:=KJ a rfl;rw[this,nI,e,Option.map_id,id]
set_option tactic.hygienic true in
theorem Ct{β:Type}{M:List (Nm×β)}{p:Nm}{r:β}(h:(M.map (·.1)).Nodup):((uS M p r).map (·.1)).Nodup:=by
 rw[DL];split
 ·exact h
 ·rename_i c;rw[QM];exact⟨h,by simp,λa ha b hb e=>c (by rw[Qe.mp hb]at e;exact e▸ha)⟩
theorem Tb.put(t:Tb h n c f)(hc:c<=1000)(x:Nm)(v:PV):∃o,gG (.ref n) (pv x) v h=some (h.set n o)/\Tb (h.set n o) n (c+1) (upN f x v):=by
 obtain⟨E,a,b,d,e⟩:=t;obtain⟨o,ho,_⟩:=fY a;have hp:gG (.ref n) (pv x) v h=some (h.set n (.dD (fB (E.map (pF id)) (pv x) (id v)))):=HU a rfl (by rw[PC];omega);rw[IZ]at hp;refine⟨_,hp,uS E x v,yW (bH ho),Qb (AG _ _ _) (by omega),Ct d,λy=>?_⟩;rw[AF,e];rfl
inductive Ac where
 |make (kd z:Str)
 |num (w:Str) (th:Nm) (v:Int)
def aN:Ac->List PV
 |.make kd z=>[.str "make",.str kd,pv root,.str z]
 |.num w th v=>[.str w,pv th,.int v]
structure Dd where
 nm:Nm
 seen:Seen
 act:Ac
def dP(d:Dd):PV:=.tup [pv d.nm,sv d.seen,.tup (aN d.act)]
def Ic(kd:Str):Prop:=kd="count" \/ kd="choice" \/ kd="bag"
def Bz(w:Str):Prop:=w="add" \/ w="choose" \/ w="put" \/ w="take"
def KdA:Ac->Prop
 |.make kd _=>Ic kd
 |.num w _ _=>Bz w
structure Wf(d:Dd):Prop where
 len:d.seen.length<=100
 act:KdA d.act
 rt:d.nm≠root
def tot(S:Seen):Int:=(S.map (·.2)).sum
def kyL(d:Dd):List Key:=[.inl (1+tot d.seen),.inr d.nm.1,.inl d.nm.2]
theorem dP0{d:Dd}:vIx (dP d) (.int 0) h=.ok (pv d.nm) h:=by unfold dP;simp
theorem dP1{d:Dd}:vIx (dP d) (.int 1) h=.ok (sv d.seen) h:=by unfold dP;simp
theorem dP2{d:Dd}:vIx (dP d) (.int 2) h=.ok (.tup (aN d.act)) h:=by unfold dP;simp
theorem FL(d:Dd)(hS:d.seen.length<=100)(h:PH)(Q:PV->PH->Prop)(k:∀h',Ext h h'->Q (.int (1+tot d.seen)) h'):(zK [dP d] h).W Q:=by
 refine bG ?_;have hc:=wR (js:=[none]) (tg:=gN 0) (tst:=mI) (elt:=aB vAt (mV 0) (mC (.int 1))) (m:=aB vAt (mV 0) (mC (.int 1))) (δ:=[some (dP d)]) (h:=h) (h1:=h) (ys:=d.seen) (emb:=pv)
  (λq=>some (.int q.2)) (by simp[dP1,AE]) (by omega) (λq hq=>⟨_,rfl,λh3 _=>⟨rfl,by simp[fQ,pv1]⟩⟩)
 have es:d.seen.filterMap (λq=>some (PV.int q.2))=(d.seen.map (·.2)).map PV.int:=by rw[filterMap_some,Qw];rfl
 rw[es]at hc;have gs:(h++[MO.lst ((d.seen.map (·.2)).map PV.int)])[h.length]?=some (.lst ((d.seen.map (·.2)).map PV.int)):=aF;change (sG [some (dP d)] h).W _;unfold sG;rw[My,Hw,MA,Rs.bind_ok,Kl,tS,hc];simp only[Rs.bind_ok,C7,tV gs,Dr,rV];exact k _ (Ext.app _ _)
theorem Ie(d:Dd)(hS:d.seen.length<=100)(h:PH)(Q:PV->PH->Prop)(k:∀h',Ext h h'->Q (tP (kyL d)) h'):(By [dP d] h).W Q:=by
 refine bG ?_;unfold Bx;rw[aD];simp[dP0];refine⟨[some (dP d),some (.str d.nm.1),some (.int d.nm.2)],by simp[pv],?_⟩;refine now ?_;simp;refine FL d hS _ _ λh' hx=>?_
 try simp
 exact k h' hx
def ent(d:Dd):PV×PV:=(pv d.nm,dP d)
theorem AH(p:Str×Int):∀es:List Dd,(aM (es.map ent) (pv p)).isSome=true↔p∈es.map (·.nm)
 |[]=>by simp[aM]
 |d::es=>by
  rw[P0,P0,P5]
  show(aM ((pv d.nm,dP d)::es.map ent) (pv p)).isSome=true↔_
  unfold aM
  by_cases e:d.nm=p
  ·rw[if_pos (by rw[e])];simp[e]
  ·rw[if_neg (λz=>e (nH z)),AH p es];constructor
   ·exact .inr
   ·rintro(z|z)
    ·exact(e z.symm).elim
    ·exact z
variable{es:List Dd}
theorem Ig{d:Dd}(hu:∀x∈es,x.nm=d.nm->x=d):fB (es.map ent) (pv d.nm) (dP d)=(if d.nm∈es.map (·.nm) then es else es++[d]).map ent:=by
 unfold fB;have hl:=AH d.nm es
 by_cases e:d.nm∈es.map (·.nm)
 ·rw[if_pos e,if_pos (hl.mpr e),Qw];apply Rp;intro x hx
  show(if(ent x).1=pv d.nm then((ent x).1,dP d) else ent x)=ent x
  by_cases z:(ent x).1=pv d.nm
  ·rw[if_pos z];have:=hu x hx (nH z);subst this;rfl
  ·rw[if_neg z]
 ·rw[if_neg e,if_neg (λz=>e (hl.mp z)),Qq];rfl
theorem Ih(xs:List Dd):oU (xs.map kyL)=true:=by
 cases xs with
 |nil=>rfl
 |cons a r=>
  rw[P0];unfold oU;rw[PZ];refine⟨rfl,Qf.mpr λz hz=>?_⟩;obtain⟨q,_,rfl⟩:=Qc.mp hz;rfl
theorem uT{β:Type}(f:Dd->β)(hf:∀a b,f a=f b->a.nm=b.nm):∀{xs:List Dd},(xs.map (·.nm)).Nodup->(xs.map f).Nodup:=λ{xs} h=>by
 unfold List.Nodup at*;rw[Rq] at*;exact h.imp λlg e=>lg (hf _ _ e)
theorem FM(a b:Dd)(e:kyL a=kyL b):a.nm=b.nm:=by
 unfold kyL at e;simp at e;exact Prod.ext e.2.1 e.2.2
abbrev uU(os:List Dd):Prop:=os.Pairwise (λa b=>aZ (kyL b) (kyL a)=false)
set_option tactic.hygienic true in
theorem zM(U ds:List Dd)(hU:∀d∈ds,d∈U)(hlU:U.length<=63)(hw:∀d∈ds,Wf d)(hl:ds.length<=1000)(hu:∀d∈ds,∀e∈ds,d.nm=e.nm->d=e)(n:Nat)(h:PH)(g:h[n]?=some (.lst (ds.map dP)))(Q:PV->PH->Prop)
  (k:∀os l h',Ext h h'->h.length<=l->h'[l]?=some (.lst (os.map dP))->(os.map (·.nm)).Nodup->(∀d,d∈os↔d∈ds)->uU os->Q (.ref l) h'):(dS [.ref n] h).W Q:=by
 refine bG ?_;unfold mY;rw[aD];simp;have x0:Ext h (h++[MO.dK []]):=Ext.app _ _;have g0:bI (h++[MO.dK []]) h.length=some (([]:List Dd).map ent):=Cg aF;generalize h++[MO.dK []]=hA at x0 g0;refine now ?_;rw[aD];refine iW (n:=n) (xs:=ds.map dP) (h1:=hA) (λq δ h'=>∃es:List Dd,Ext h h'/\bI h' h.length=some (es.map ent)/\(es.map (·.nm)).Nodup/\(∀d,d∈es↔d∈ds.take q)/\es.length<=q/\∃x2,δ=[some (.ref n),some (.ref h.length),x2]) (by simp) (x0 _ _ g) ⟨[],x0,g0,by simp,by simp,by simp,_,rfl⟩ ?_ ?_ ?_
 ·rintro q δ h' hq ⟨es,x,_⟩;exact x _ _ g
 ·rintro q y δ h' hy ⟨es,x,t,nd,mem,le,x2,rfl⟩;rw[PQ]at hy;obtain⟨d,hd,rfl⟩:=Qa.mp hy;have l9:q<ds.length:=(Pv.mp hd).1;have htk:ds.take (q+1)=ds.take q++[d]:=by rw[QP,hd];rfl
  have cf:d∈ds:=Qp hd;have d8:∀e∈es,e∈ds:=λe he=>SQ ((mem e).mp he);refine⟨_,rfl,?_⟩;have hp:tX (.ref h.length) (pv d.nm) (dP d) h'=some (h'.set h.length (.dD (fB (es.map ent) (pv d.nm) (dP d)))):=Fh t N6 (by rw[PC];omega);rw[Ig λe he z=>hu e (d8 e he) d cf z]at hp;have hh:∃o,h'[h.length]?=some o:=let ⟨o,g,_⟩:=fY t;⟨o,g⟩;obtain⟨o,ho⟩:=hh;unfold jL;simp[dP0];refine⟨_,hp,Cr x,_,yW (bH ho),?_,?_,?_⟩
  ·split
   ·exact nd
   ·rename_i z;rw[Qq,QM];refine⟨nd,by simp,λa ha b hb e=>?_⟩;rw[List.map_singleton,Qe]at hb;subst hb e;exact z (by simpa using ha)
  ·intro e;rw[htk];split
   ·rename_i z;rw[mem e,Ql,Qe];constructor
    ·exact .inl
    ·rintro(z'|rfl)
     ·exact z'
     ·obtain⟨e',jc,en⟩:=Qc.mp (show e.nm∈es.map (·.nm) by simpa using z)
      have:=hu e' (d8 e' jc) e cf en;subst this;exact(mem e').mp jc
   ·rw[Ql,Ql,mem e]
  ·split
   ·omega
   ·simp;omega
 ·rintro δ h' ⟨es,x,t,nd,mem,le,x2,rfl⟩;have hle:es.length<=63:=by
   have h1:(es.map (·.nm)).length<=(U.map (·.nm)).length:=Sf nd λp hp=>by
    obtain⟨d,hd,rfl⟩:=Qc.mp hp;exact Qc.mpr ⟨d,hU d (SQ ((mem d).mp hd)),rfl⟩
   simp at h1;omega
  obtain⟨o,ho,Pl,_⟩:=fY t;refine now ?_;simp[Pl,HM t];have x1:Ext h' (h'++[MO.vw 1 h.length]):=Ext.app _ _;have ei:jA (.ref h'.length) (h'++[MO.vw 1 h.length])=some (es.map dP):=by
   rw[AA aF (Fg x1 t),Qw];rfl
  generalize h'++[MO.vw 1 h.length]=h2 at x1 ei;have mr:∀d,d∈es↔d∈ds:=λd=>by rw[mem d,PC,RF]
  refine yY (key:=kyL) (emb:=dP) (S:=shape [.inl 0,.inr "",.inl 0]) ei (by omega) (Ih es) (λ_ _=>rfl) (uT kyL FM nd) (λd hd h Q kk=>Ie d (hw d ((mr d).mp hd)).len h Q kk) λos h3 x3 hp ho=>?_;refine k os h3.length _ ((x.trans x1).trans (x3.trans (Ext.app _ _))) (Qb x.len (Qb x1.len x3.len)) aF ((hp.map _).nodup_iff.mpr nd) (λd=>(hp.mem_iff).trans (mr d)) ho
structure Dl(os ds:List Dd):Prop where
 mem:∀d,d∈ds↔d∈os
 nd:(os.map (·.nm)).Nodup
 rk:uU os
 wf:∀d∈os,Wf d
 ln:os.length<=50
 l2:ds.length<=200
theorem Cu{ds:List Dd}(nd:(ds.map (·.nm)).Nodup):∀d∈ds,∀e∈ds,d.nm=e.nm->d=e:=by
 induction ds with
 |nil=>intro d hd;cases hd
 |cons x r ih=>
  rw[P0,Rv]at nd;intro d hd e he z;rcases P5.mp hd with rfl|h2
  ·rcases P5.mp he with rfl|h3
   ·rfl
   ·exact(nd.1 (Qc.mpr ⟨e,h3,z.symm⟩)).elim
  ·rcases P5.mp he with rfl|h3
   ·exact(nd.1 (Qc.mpr ⟨d,h2,z⟩)).elim
   ·exact ih nd.2 d h2 e h3 z
variable{ys:List Dd}
theorem FN{xs:List Dd}(hx:uU xs)(hy:uU ys)(nx:(xs.map (·.nm)).Nodup)(ny:(ys.map (·.nm)).Nodup)(h:∀d,d∈xs↔d∈ys):xs=ys:=by
 have n1:xs.Nodup:=(Rq.mp nx).imp λh e=>h (by rw[e]);have n2:ys.Nodup:=(Rq.mp ny).imp λh e=>h (by rw[e]);refine S7 (le:=λa b:Dd=>aZ (kyL b) (kyL a)=false) (λa b ha hb h1 h2=>?_) hx hy ((List.perm_ext_iff_of_nodup n1 n2).mpr h);exact Cu nx a ha b ((h b).mpr hb) (FM _ _ (oC rfl h2 h1))
variable{Q:PV->PH->Prop}{os:List Dd}
theorem BA{ds:List Dd}(D:Dl os ds)(g:h[n]?=some (.lst (ds.map dP)))(k:∀l h',Ext h h'->h.length<=l->h'[l]?=some (.lst (os.map dP))->Q (.ref l) h'):(dS [.ref n] h).W Q:=
 zM os ds (λd hd=>(D.mem d).mp hd) (by have:=D.ln;omega) (λd hd=>D.wf d ((D.mem d).mp hd)) (by have:=D.l2;omega) (λd hd e he=>Cu D.nd d ((D.mem d).mp hd) e ((D.mem e).mp he)) n h g Q λrg l h' x b g' nd m rk=>by
  have:rg=os:=FN rk D.rk nd D.nd λd=>(m d).trans (D.mem d);subst this;exact k l h' x b g'
theorem Ii(d:Dd)(h:PH)(Q:PV->PH->Prop)(k:Q (pv d.nm) h):(lJ [dP d] h).W Q:=by
 refine bG ?_;simp[qN,dP0];exact k
variable{E:FE}{body:Ms}{h1:PH}{tg:Mg}{δ:Ev}
theorem zN{m:Me}(e:m δ h=.ok (.ref n) h1)(g:h1[n]?=some (.lst []))(k:E.nx δ h1):(cT (aU m) tg body δ h).W E:=
 iW (λ_ δ' h'=>δ'=δ/\h'=h1) e g ⟨rfl,rfl⟩ (λ_ _ _ _ i=>i.2▸g) (λq x _ _ hx=>by simp at hx) λ_ _ i=>i.1▸i.2▸k
variable{m:Nat}
theorem FO(i:Int)(g:h[m]?=some (.lst [])):jM [.int i,.ref m] h=.ok .non h:=by
 have w:(jM [.int i,.ref m] h).W λq h'=>q=.non/\h'=h:=by
  refine bG ?_;unfold mZ;rw[aD];refine zN (n:=m) (h1:=h) (by simp) g (now ?_);simp
 obtain⟨q,h',e,rfl,rfl⟩:=jV w;exact e
def nmL(d:Dd):List Key:=[.inr d.nm.1,.inl d.nm.2]
theorem Ij(xs:List Dd):oU (xs.map nmL)=true:=by
 cases xs with
 |nil=>rfl
 |cons a r=>
  rw[P0];unfold oU;rw[PZ];refine⟨rfl,Qf.mpr λz hz=>?_⟩;obtain⟨q,_,rfl⟩:=Qc.mp hz;rfl
theorem KL(a b:Dd)(e:nmL a=nmL b):a.nm=b.nm:=by
 unfold nmL at e;simp at e;exact Prod.ext e.1 e.2
theorem Ov{a:Ac}(h:KdA a):∃w r,aN a=.str w::r/\w≠"settle" /\ w≠"back" := by
 cases a with
 |make kd z=>exact⟨_,_,rfl,by decide +kernel,by decide +kernel⟩
 |num w th v=>rcases h with rfl|rfl|rfl|rfl <;> exact⟨_,_,rfl,by decide +kernel,by decide +kernel⟩
theorem xI(wf:∀d∈os,Wf d)(nd:(os.map (·.nm)).Nodup)(hl:os.length<=50)(g:h[n]?=some (.lst (os.map dP)))(k:∀l h',Ext h h'->h'[l]?=some (.dK [])->Q (.ref l) h'):(pC [.ref n] h).W Q:=by
 refine bG ?_;unfold uP;rw[aD];simp;refine now ?_;rw[aD];simp;have x0:Ext h (h++[MO.dK [],MO.dK []]):=Ext.app _ _;have gt:(h++[MO.dK [],MO.dK []])[h.length]?=some (.dK []):=by simp
 have gb:(h++[MO.dK [],MO.dK []])[h.length+1]?=some (.dK []):=by simp
 generalize h++[MO.dK [],MO.dK []]=hA at x0 gt gb;refine now ?_;rw[aD];obtain⟨p,h2,e2,L,h3,rfl,rfl,x3,pm⟩:=jV (yY (f:=lJ) (b:=true) (x:=.ref n) (h:=hA) (Q:=λp h2=>∃L h3,p=.ref h3.length/\h2=h3++[.lst (L.map dP)]/\Ext hA h3/\L.Perm os) (key:=nmL) (emb:=dP) (S:=shape [.inr "",.inl 0]) (uD (x0 _ _ g)) (by omega) (Ij os) (λ_ _=>rfl) (uT nmL KL nd) (λd hd h Q kk=>Ii d h Q (kk h (Ext.refl h))) λL h3 x3 hp ho=>⟨L,h3,rfl,rfl,x3,hp⟩);have xB:Ext hA (h3++[.lst (L.map dP)]):=x3.trans (Ext.app _ _);have gs:(h3++[.lst (L.map dP)])[h3.length]?=some (.lst (L.map dP)):=aF;generalize h3.length=sl at e2 gs;generalize h3++[.lst (L.map dP)]=hB at e2 xB gs;refine iW (n:=sl) (xs:=L.map dP) (h1:=hB) (λq δ h'=>Ext hB h'/\∃x3 x4 x5 x6 x7,δ=[some (.ref n),some (.ref h.length),some (.ref (h.length+1)),x3,x4,x5,x6,x7]) (by simp[e2]) gs ⟨Ext.refl _,_,_,_,_,_,rfl⟩ (λq δ h' _ i=>i.1 _ _ gs) ?_ ?_
 ·rintro q y δ h' hy ⟨x,x3,x4,x5,x6,x7,rfl⟩;rw[PQ]at hy;obtain⟨d,za,rfl⟩:=Qa.mp hy;obtain⟨w,r,ea,n1,n2⟩:=Ov (wf d (pm.mem_iff.mp (Qp za))).act;refine⟨_,rfl,?_⟩;unfold nB;rw[aD];simp[dP0];refine⟨[some (.ref n),some (.ref h.length),some (.ref (h.length+1)),some (dP d),some (.str d.nm.1),some (.int d.nm.2),x6,x7],by simp[pv],?_⟩;refine now ?_;rw[aD];simp[dP2,ea];refine now ?_;rw[aD];simp[n1];refine now ?_;rw[aD];have xq:=(xB.trans x) _ _ gb;have y1:Ext h' (h'++[MO.lst []]):=Ext.app _ _;have y2:(h'++[MO.lst []])[h'.length]?=some (.lst []):=aF;have fj:=HJ (x:=d.nm.1) (z:=.ref h'.length) (y1 _ _ xq);simp[F7 xq];generalize h'++[MO.lst []]=h2 at y1 y2 fj;have mq:kJ (.ref (h.length+1)) [.str d.nm.1,.ref h'.length] h2=.ok (.ref h'.length) h2:=fj;simp[mq,FO d.nm.2 y2];refine now ?_;have nn:kC .non .non h2=.ok (.bl false) h2:=rfl;simp[nn,n2];exact x.trans y1
 ·rintro δ h' ⟨x,x3,x4,x5,x6,x7,rfl⟩;refine now ?_;simp;exact k _ _ (x0.trans (xB.trans x)) ((xB.trans x) _ _ gt)
theorem FP{ds:List Dd}(D:Dl os ds)(g:h[n]?=some (.lst (ds.map dP)))(k:∀l h',Ext h h'->h'[l]?=some (.lst (os.map dP))->Q (.ref l) h'):(nD [.ref n] h).W Q:=by
 refine bG ?_;unfold nC;rw[aD];simp;refine BA D g λl h1 x1 b1 g1=>?_;refine now ?_;rw[aD];simp;refine xI D.wf D.nd D.ln g1 λt h2 x2 g2=>?_;refine now ?_;have hc:=fW (js:=[none,some 2]) (tg:=gN 0) (tst:=aK (aB cY (aB vAt (mV 0) (mC (.int 0))) (mV 1))) (elt:=mV 0) (m:=mV 1) (δ:=[some (.ref n),some (.ref l),some (.ref t)]) (h:=h2) (h1:=h2) (n:=l) (ys:=os) (emb:=dP) (λd=>some (dP d)) (by simp) (x2 _ _ g1) (by have:=D.ln;omega)
  (λd hd=>⟨_,rfl,λh3 hx=>⟨by simp[fQ,dP0,((Tb.nil g2).ext hx).hasNo],by simp[fQ]⟩⟩)
 rw[filterMap_some]at hc;simp[hc];exact k _ _ (x1.trans (x2.trans (Ext.app _ _))) aF
theorem FQ{ds:List Dd}(D:Dl os ds)(g:h[n]?=some (.lst (ds.map dP)))(k:∀l h',Ext h h'->h'[l]?=some (.lst [])->Q (.ref l) h'):(nG [.ref n] h).W Q:=by
 refine bG ?_;unfold nF;rw[aD];simp;refine BA D g λl h1 x1 b1 g1=>?_;refine now ?_;rw[aD];simp;refine xI D.wf D.nd D.ln g1 λt h2 x2 g2=>?_;refine now ?_;have hc:=fW (js:=[none,some 2]) (tg:=gN 0) (tst:=aK (aB kI (aB vAt (mV 0) (mC (.int 0))) (mV 1))) (elt:=bK (aA (aB vAt (mV 0) (mC (.int 0))) (aA (aB vAt (mV 1) (aB vAt (mV 0) (mC (.int 0)))) aC))) (m:=mV 1) (δ:=[some (.ref n),some (.ref l),some (.ref t)]) (h:=h2) (h1:=h2) (n:=l) (ys:=os) (emb:=dP) (λd=>none) (by simp) (x2 _ _ g1) (by have:=D.ln;omega)
  (λd hd=>⟨_,rfl,λh3 hx=>by simp[fQ,dP0,((Tb.nil g2).ext hx).has]⟩)
 have e:os.filterMap (λ_=>(none:Option PV))=[]:=by simp
 rw[e]at hc;simp[hc];exact k _ _ (x1.trans (x2.trans (Ext.app _ _))) aF
def upF{β:Type}(f:Nm->β)(x:Nm)(v:β):Nm->β:=λy=>if y=x then v else f y
def cvB(S:Seen)(nm:Nm):Bool:=match look S nm.1 with
 |some n=>decide (nm.2<=n)
 |none=>false
def eV(w:Str):Str:=if w="add" then "count" else if w="choose" then "choice" else "bag"
def mkB(th:Nm)(e:Dd):Bool:=decide (e.nm=th)&&match e.act with|.make _ _=>true|_=>false
def kdD(e:Dd):Str:=match e.act with
 |.make kd _=>kd
 |_=>""
def kOf(P:List Dd)(th:Nm):Option Str:=(P.find? (mkB th)).map kdD
def idD(P:List Dd)(d:Dd):Bool:=match d.act with
 |.make _ _=>false
 |.num w th _=>decide (kOf P th≠some (eV w))
def hits(w:Str)(S:Seen)(v:Int)(r:Nm×Int):Bool:=cvB S r.1&&(decide (w="choose") || (decide (w="take")&&decide (r.2=v)))
structure Gs where
 N:Nm->List (Nm×Int)
 U:Nm->Option Nm
def gK(w:Str)(nm:Nm)(v:Int):List (Nm×Int):=if w="choose" \/ w="put" then[(nm,v)] else[]
def gst(P:List Dd)(s:Gs)(d:Dd):Gs:=match d.act with
 |.make _ _=>s
 |.num w th v=>if idD P d=true then s else⟨upF s.N th ((s.N th).filter (λr=>!hits w d.seen v r)++gK w d.nm v),λx=>if(s.N th).any (λr=>decide (r.1=x)&&hits w d.seen v r)=true then some d.nm else s.U x⟩
def fG(os:List Dd):Nat->Gs
 |0=>⟨λ_=>[],λ_=>none⟩
 |q+1=>match os[q]? with
  |some d=>gst (os.take q) (fG os q) d
  |none=>fG os q
def od(x y:Dd):Bool:=match x.act,y.act with
 |.num w th v,.num w' th' v'=>decide (th'=th)&&(cvB y.seen x.nm&&((decide (w="choose")&&decide (w'="choose")) || (decide (w="put")&&(decide (w'="take")&&decide (v'=v)))))
 |_,_=>false
def jN(os:List Dd)(i q:Nat)(d:Dd):Option Dd:=((os.take q).drop (i+1)).find? (od d)
variable{P:List Dd}
theorem fH{Q:List Dd}{f:Dd->Bool}:(P++Q).find? f=(P.find? f).or (Q.find? f):=List.find?_append
variable{i:Nat}{y:Dd}
theorem qO{q:Nat}(h:i<q){d:Dd}(e:os[q]?=some y):jN os i (q+1) d=(jN os i q d).or (if od d y=true then some y else none):=by
 have hq:=(Pv.mp e).1;unfold jN;rw[QP,e,List.drop_append_of_le_length (by rw[QK];omega),fH]
 congr 1
 show([y].find? (od d))=_
 rw[Qv];cases od d y <;> rfl
theorem qP{q:Nat}{d:Dd}:jN os q (q+1) d=none:=by
 unfold jN;rw[List.drop_of_length_le (by rw[QK];omega)];rfl
variable{kd:Str}{th:Nm}
theorem FT{q:Nat}(h:i<=q)(e:kOf (os.take i) th=some kd):kOf (os.take q) th=some kd:=by
 have:os.take q=os.take i++(os.take q).drop i:=by
  have h2:(os.take q).take i=os.take i:=by rw[List.take_take,Tc h]
  rw[<-h2,RA]
 unfold kOf at e⊢;rw[this,fH];cases e2:(os.take i).find? (mkB th) with
 |none=>rw[e2]at e;cases e
 |some x=>rw[e2]at e;exact e
theorem zO:¬ (Pz "choice")=Pz "bag" /\ ¬ (Pz "choice")=Pz "count" /\ ¬ (Pz "bag")=Pz "count" := by refine⟨?_,?_,?_⟩ <;> decide +kernel
theorem hW:¬ (Pz "choose")=Pz "add" /\ ¬ (Pz "put")=Pz "add" /\ ¬ (Pz "put")=Pz "choose" /\ ¬ (Pz "take")=Pz "add" /\ ¬ (Pz "take")=Pz "choose" /\ ¬ (Pz "take")=Pz "put" /\ ¬ (Pz "add")=Pz "choose" /\ ¬ (Pz "add")=Pz "put" /\ ¬ (Pz "add")=Pz "take" /\ ¬ (Pz "choose")=Pz "put" /\ ¬ (Pz "choose")=Pz "take" /\ ¬ (Pz "put")=Pz "take" := by refine⟨?_,?_,?_,?_,?_,?_,?_,?_,?_,?_,?_,?_⟩ <;> decide +kernel
theorem fR:eV "choose" = "choice" := by unfold eV;rw[if_neg hW.1,if_pos rfl]
theorem qQ:eV "put" = "bag" := by unfold eV;rw[if_neg hW.2.1,if_neg hW.2.2.1]
theorem lK:eV "take" = "bag" := by unfold eV;rw[if_neg hW.2.2.2.1,if_neg hW.2.2.2.2.1]
theorem BB:eV "add" = "count" := by unfold eV;rw[if_pos rfl]
variable{v:Int}{w:Str}
theorem FU{q:Nat}(h:i<=q){d:Dd}(ea:d.act=.num w th v)(ni:idD (os.take i) d=false):kOf (os.take q) th=some (eV w):=by
 refine FT h ?_;unfold idD at ni;rw[ea]at ni;exact Classical.byContradiction λz=>by
  have:=of_decide_eq_false ni;exact this z
structure LI(os:List Dd)(q:Nat)(s:Gs):Prop where
 u:∀i d,i<q->os[i]?=some d->s.U d.nm=if idD (os.take i) d=true then none else(jN os i q d).map (·.nm)
 n:∀th r,r∈s.N th ↔ ∃i d w,i<q/\os[i]?=some d/\d.act=.num w th r.2/\d.nm=r.1/\(w="choose" \/ w="put")/\idD (os.take i) d=false/\jN os i q d=none
 x:∀x,(s.U x).isSome=true->x∈(os.take q).map (·.nm)
theorem nJ(nd:(os.map (·.nm)).Nodup){j:Nat}{d e:Dd}(h1:os[i]?=some d)(h2:os[j]?=some e)(h:d.nm=e.nm):i=j/\d=e:=by
 have e1:(os.map (·.nm))[i]?=some d.nm:=by rw[PQ,h1];rfl
 have e2:(os.map (·.nm))[j]?=some e.nm:=by rw[PQ,h2];rfl
 have hi:=(Pv.mp e1).1;have:i=j:=(List.getElem?_inj hi nd).mp (by rw[e1,e2,h]);subst this;rw[h1]at h2;exact⟨rfl,P4 h2⟩
set_option tactic.hygienic true in
theorem Ik{q:Nat}(h:i<q){d:Dd}(ni:idD (os.take i) d=false)(o:od d y=true):idD (os.take q) y=false:=by
 unfold od at o;split at o
 ·rename_i w th v w' th' v' e1 e2;simp only[PZ,decide_eq_true_eq,SH]at o;obtain⟨rfl,_,o⟩:=o;have hk:=FU (Rt h) e1 ni;unfold idD;rw[e2]
  show decide (kOf (os.take q) th'≠some (eV w'))=false
  rw[hk];rcases o with⟨rfl,rfl⟩|⟨rfl,rfl,_⟩
  ·simp
  ·rw[qQ,lK];simp
 ·cases o
variable{s:Gs}
theorem LI.same{q:Nat}(i:LI os q s)(nd:(os.map (·.nm)).Nodup)(e:os[q]?=some y)(no:∀i d,i<q->os[i]?=some d->idD (os.take i) d=false->od d y=false)(hy:idD (os.take q) y=true\/∀w th v,y.act=.num w th v->False):LI os (q+1) s:=by
 have hq:=(Pv.mp e).1;have tk:os.take (q+1)=os.take q++[y]:=by rw[QP,e];rfl
 have ny:y.nm∉(os.take q).map (·.nm):=λz=>by
  obtain⟨d,hd,en⟩:=Qc.mp z;obtain⟨j,hj,ej⟩:=SR.mp hd;rw[QK]at hj;have ue:os[j]?=some d:=by rw[List.getElem_take]at ej;rw[Qo (by omega),ej]
  have:=(nJ nd ue e en).1;omega
 have su:∀j d,j<q->os[j]?=some d->idD (os.take j) d=false->jN os j (q+1) d=jN os j q d:=λj d hj hd hi=>by
  rw[qO hj e,no j d hj hd hi];simp
 refine⟨λj d hj hd=>?_,λth r=>?_,λx hx=>by rw[tk,Qq];exact Qx _ (i.x x hx)⟩
 ·rcases SF j q with z|z
  ·rw[i.u j d z hd];cases ei:idD (os.take j) d with
   |true=>rfl
   |false=>rw[su j d z hd ei]
  ·have:j=q:=by omega
   subst this;rw[e]at hd;cases hd
   have e0:s.U y.nm=none:=by
    cases e2:s.U y.nm with
    |none=>rfl
    |some v=>exact(ny (i.x _ (by rw[e2];rfl))).elim
   rw[e0];rw[qP];split <;> rfl
 ·rw[i.n];constructor
  ·rintro⟨j,d,w,hj,hd,a1,a2,a3,a4,a5⟩;exact⟨j,d,w,by omega,hd,a1,a2,a3,a4,by rw[su j d hj hd a4];exact a5⟩
  ·rintro⟨j,d,w,hj,hd,a1,a2,a3,a4,a5⟩;have:j<q:=by
    rcases SF j q with z|z
    ·exact z
    ·have:j=q:=by omega
     subst this;rw[e]at hd;cases hd
     rcases hy with z|z
     ·rw[z]at a4;cases a4
     ·exact(z _ _ _ a1).elim
   exact⟨j,d,w,this,hd,a1,a2,a3,a4,by rw[<-su j d this hd a4];exact a5⟩
theorem FV(nd:(os.map (·.nm)).Nodup){q:Nat}(e:os[q]?=some y):os.take (q+1)=os.take q++[y]/\y.nm∉(os.take q).map (·.nm):=by
 refine⟨by rw[QP,e];rfl,λz=>?_⟩;obtain⟨d,hd,en⟩:=Qc.mp z;obtain⟨j,hj,ej⟩:=SR.mp hd;rw[QK]at hj;have ue:os[j]?=some d:=by rw[List.getElem_take]at ej;rw[Qo (by omega),ej]
 have:=(nJ nd ue e en).1;omega
set_option tactic.hygienic true in
theorem zP{q:Nat}(L:LI os q s)(nd:(os.map (·.nm)).Nodup)(ea:y.act=.num w th v)(ny:idD (os.take q) y=false){d:Dd}(hi:i<q)(hd:os[i]?=some d)(ip:idD (os.take i) d=false):(∃r∈s.N th,r.1=d.nm/\hits w y.seen v r=true)↔(jN os i q d=none/\od d y=true):=by
 have ky:=FU (PD q) ea ny;constructor
 ·rintro⟨r,hr,en,hh⟩;obtain⟨j,d',w',hj,cg,a1,a2,a3,a4,a5⟩:=(L.n th r).mp hr;obtain⟨rfl,rfl⟩:=nJ nd cg hd (by rw[a2,en]);refine⟨a5,?_⟩;have kd:=FU (Rt hi) a1 ip;rw[ky]at kd;have kk:eV w=eV w':=P4 kd;unfold hits at hh;simp only[PZ,SH,decide_eq_true_eq]at hh;obtain⟨hc,hw⟩:=hh;unfold od;rw[a1,ea];simp only[PZ,SH,decide_eq_true_eq];refine⟨trivial,by rw[a2];exact hc,?_⟩;rcases hw with rfl|⟨rfl,rfl⟩
  ·rcases a3 with rfl|rfl
   ·exact .inl ⟨rfl,rfl⟩
   ·rw[fR,qQ]at kk;exact absurd kk zO.1
  ·rcases a3 with rfl|rfl
   ·rw[fR,lK]at kk;exact absurd kk.symm zO.1
   ·exact .inr ⟨rfl,rfl,rfl⟩
 ·rintro⟨h1,h2⟩;unfold od at h2;rw[ea]at h2;split at h2
  ·rename_i w' th' v' w2 th2 v2 e1 e2;cases e2
   simp only[PZ,SH,decide_eq_true_eq]at h2;obtain⟨rfl,hc,hw⟩:=h2;refine⟨(d.nm,v'),(L.n _ _).mpr ⟨i,d,w',hi,hd,e1,rfl,?_,ip,h1⟩,rfl,?_⟩
   ·rcases hw with⟨a,_⟩|⟨a,_⟩
    ·exact .inl a
    ·exact .inr a
   ·unfold hits;simp only[PZ,SH,decide_eq_true_eq];refine⟨hc,?_⟩;rcases hw with⟨_,a⟩|⟨_,a,b⟩
    ·exact .inl a
    ·exact .inr ⟨a,b.symm⟩
  ·cases h2
set_option tactic.hygienic true in
theorem LI.live{q:Nat}(L:LI os q s)(nd:(os.map (·.nm)).Nodup)(e:os[q]?=some y)(ea:y.act=.num w th v)(ny:idD (os.take q) y=false):LI os (q+1) ⟨upF s.N th ((s.N th).filter (λr=>!hits w y.seen v r)++gK w y.nm v),λx=>if(s.N th).any (λr=>decide (r.1=x)&&hits w y.seen v r)=true then some y.nm else s.U x⟩:=by
 obtain⟨tk,nn⟩:=FV nd e;have anyI:∀x,(s.N th).any (λr=>decide (r.1=x)&&hits w y.seen v r)=true ↔ ∃r∈s.N th,r.1=x/\hits w y.seen v r=true:=λx=>by
  rw[List.any_eq_true];simp only[PZ,decide_eq_true_eq]
 refine⟨λj d hj hd=>?_,λt r=>?_,λx hx=>?_⟩
 ·show(if(s.N th).any (λr=>decide (r.1=d.nm)&&hits w y.seen v r)=true then some y.nm else s.U d.nm)=_
  rcases SF j q with z|z
  ·cases ei:idD (os.take j) d with
   |true=>
    rw[if_neg,L.u j d z hd,ei]
    ·rfl
    ·rw[anyI];rintro⟨r,hr,en,_⟩;obtain⟨j',d',w',jk,cg,a1,a2,a3,a4,a5⟩:=(L.n th r).mp hr;obtain⟨rfl,rfl⟩:=nJ nd cg hd (by rw[a2,en]);rw[ei]at a4;cases a4
   |false=>
    have hi:=zP L nd ea ny z hd ei;rw[qO z e,L.u j d z hd,ei]
    by_cases c:jN os j q d=none/\od d y=true
    ·rw[if_pos ((anyI _).mpr (hi.mpr c)),c.1,c.2];rfl
    ·rw[if_neg (λz=>c (hi.mp ((anyI _).mp z)))];cases e2:jN os j q d with
     |some x=>rfl
     |none=>
      have:od d y=false:=by
       cases e3:od d y with
       |false=>rfl
       |true=>exact(c ⟨e2,e3⟩).elim
      rw[this];rfl
  ·have:j=q:=by omega
   subst this;rw[e]at hd;cases hd
   rw[if_neg,qP,ny]
   ·cases e2:s.U y.nm with
    |none=>rfl
    |some x=>exact(nn (L.x _ (by rw[e2];rfl))).elim
   ·rw[anyI];rintro⟨r,hr,en,_⟩;obtain⟨j',d',w',jk,cg,a1,a2,a3,a4,a5⟩:=(L.n th r).mp hr;have:=(nJ nd cg e (by rw[a2,en])).1;omega
 ·show r∈(if t=th then _ else s.N t)↔_
  have old:∀{j:Nat}{d:Dd}{w':Str},j<q->os[j]?=some d->d.act=.num w' t r.2->d.nm=r.1->(w'="choose" \/ w'="put")->idD (os.take j) d=false->(jN os j (q+1) d=none↔jN os j q d=none/\od d y=false):=λ{j d w'} hj hd a1 a2 a3 a4=>by
   rw[qO hj e];cases jN os j q d with
   |some x=>simp
   |none=>cases od d y <;> simp
  by_cases z:t=th
  ·subst z;rw[if_pos rfl,Ql,List.mem_filter];constructor
   ·rintro(⟨hr,hh⟩|hr)
    ·obtain⟨j,d,w',hj,hd,a1,a2,a3,a4,a5⟩:=(L.n t r).mp hr;refine⟨j,d,w',by omega,hd,a1,a2,a3,a4,(old hj hd a1 a2 a3 a4).mpr ⟨a5,?_⟩⟩;cases eo:od d y with
     |false=>rfl
     |true=>
      obtain⟨r',sk,en,h'⟩:=(zP L nd ea ny hj hd a4).mpr ⟨a5,eo⟩;obtain⟨j2,d2,w2,sx,hd2,b1,b2,_⟩:=(L.n t r').mp sk;obtain⟨rfl,rfl⟩:=nJ nd hd2 hd (by rw[b2,en]);rw[a1]at b1;have:r'=r:=Prod.ext (by rw[<-b2,a2]) (by have:=Ac.num.inj b1;exact this.2.2.symm);rw[this]at h';rw[h']at hh;cases hh
    ·unfold gK at hr;split at hr
     ·rename_i c;rw[Qe.mp hr];exact⟨q,y,w,by omega,e,ea,rfl,c,ny,qP⟩
     ·cases hr
   ·rintro⟨j,d,w',hj,hd,a1,a2,a3,a4,a5⟩;rcases SF j q with z|z
    ·obtain⟨b1,b2⟩:=(old z hd a1 a2 a3 a4).mp a5;have hr:=(L.n t r).mpr ⟨j,d,w',z,hd,a1,a2,a3,a4,b1⟩;refine .inl ⟨hr,?_⟩;cases eh:hits w y.seen v r with
     |false=>rfl
     |true=>
      have:=((zP L nd ea ny z hd a4).mp ⟨r,hr,a2.symm,eh⟩).2;rw[b2]at this;cases this
    ·have:j=q:=by omega
     subst this;rw[e]at hd;cases hd
     rw[ea]at a1;cases a1
     refine .inr ?_;unfold gK;rw[if_pos a3,Qe];exact Prod.ext a2.symm rfl
  ·rw[if_neg z,L.n];have no:∀{d:Dd}{w':Str},d.act=.num w' t r.2->od d y=false:=λ{d w'} a1=>by
    unfold od;rw[a1,ea];simp only;rw[decide_eq_false (λq=>z q.symm)];rfl
   constructor
   ·rintro⟨j,d,w',hj,hd,a1,a2,a3,a4,a5⟩;exact⟨j,d,w',by omega,hd,a1,a2,a3,a4,(old hj hd a1 a2 a3 a4).mpr ⟨a5,no a1⟩⟩
   ·rintro⟨j,d,w',hj,hd,a1,a2,a3,a4,a5⟩;have:j<q:=by
     rcases SF j q with c|c
     ·exact c
     ·have:j=q:=by omega
      subst this;rw[e]at hd;cases hd
      rw[ea]at a1;cases a1
      exact(z rfl).elim
    exact⟨j,d,w',this,hd,a1,a2,a3,a4,((old this hd a1 a2 a3 a4).mp a5).1⟩
 ·have hx:(if(s.N th).any (λr=>decide (r.1=x)&&hits w y.seen v r)=true then some y.nm else s.U x).isSome=true:=hx;rw[tk,Qq]
  by_cases c:(s.N th).any (λr=>decide (r.1=x)&&hits w y.seen v r)=true
  ·obtain⟨r,hr,en,_⟩:=(anyI x).mp c;obtain⟨j,d,w',hj,hd,a1,a2,_⟩:=(L.n th r).mp hr;refine Qx _ (Qc.mpr ⟨d,Sz.mpr ⟨j,by rw[List.getElem?_take_of_lt hj];exact hd⟩,by rw[a2,en]⟩)
  ·rw[if_neg c]at hx;exact Qx _ (L.x x hx)
theorem BC{os:List Dd}(nd:(os.map (·.nm)).Nodup):∀q,q<=os.length->LI os q (fG os q)
 |0,_=>⟨λi d hi=>absurd hi (Ta _),λth r=>⟨(λh=>nomatch h),(λ⟨i,_,_,hi,_⟩=>absurd hi (Ta _))⟩,λx h=>nomatch h⟩
 |q+1,hq=>by
  have e:os[q]?=some os[q]:=Qo (by omega);have ih:=BC nd q (by omega);have eg:fG os (q+1)=gst (os.take q) (fG os q) os[q]:=by
   show(match os[q]? with|some d=>gst (os.take q) (fG os q) d|none=>fG os q)=_
   rw[e]
  rw[eg];unfold gst;cases ea:os[q].act with
  |make kd z=>
   refine ih.same nd e (λi d hi hd ni=>?_) (.inr λw th v z=>by rw[ea]at z;cases z);unfold od;rw[ea];cases d.act <;> rfl
  |num w th v=>
   cases ni:idD (os.take q) os[q] with
   |true=>
    simp only[if_true];refine ih.same nd e (λi d hi hd ip=>?_) (.inl ni);cases eo:od d os[q] with
    |false=>rfl
    |true=>have:=Ik hi ip eo;rw[ni]at this;cases this
   |false=>
    simp only[Qh,if_false];exact ih.live nd e ea ni
theorem eqs(x y:Str)(h:PH):vEq (.str x) (.str y) h=.ok (.bl (decide (x=y))) h:=HB
variable{cn:Str}{ms:Ma}{ps:List PV}
theorem uV{f:Fn}(e:ms δ h=.ok ps h1)(l:ps.length=n)(w:(f (.ref h1.length::ps) (h1++[.ins cn []])).W λv h2=>v=.non/\Q (.ref h1.length) h2):(gA cn n f ms δ h).W Q:=by
 obtain⟨v,h2,e2,rfl,q⟩:=jV w;rw[iH,e,Rs.bind_ok,if_pos l,e2,Rs.bind_ok];dsimp only;rw[rV];exact q
theorem qR(S:Seen)(nm:Nm)(h:PH):fF [sv S,pv nm] h=.ok (.bl (cvB S nm)) h:=by
 have w:(fF [sv S,pv nm] h).W λq h'=>q=.bl (cvB S nm)/\h'=h:=by
  refine bG ?_;unfold uL;rw[aD];refine EV (xs:=S.map pv) (λq δ h'=>h'=h/\look (S.drop q) nm.1=look S nm.1/\∃x2 x3,δ=[some (sv S),some (pv nm),x2,x3]) (.inl (by simp[AE])) ⟨rfl,rfl,_,_,rfl⟩ ?_ ?_
  ·rintro q x δ h' hx ⟨rfl,hk,x2,x3,rfl⟩;rw[PQ]at hx;obtain⟨p,hp,rfl⟩:=Qa.mp hx;have hd:S.drop q=p::S.drop (q+1):=by
    obtain⟨hl,e⟩:=Pv.mp hp;rw[Q7 hl,e]
   rw[hd,cD]at hk;refine⟨_,by simp[pv];rfl,?_⟩;unfold mU cvB
   by_cases e:p.1=nm.1
   ·rw[if_pos e]at hk;simp[pv,e];rw[<-hk]
   ·rw[if_neg e]at hk;simp[pv,e];exact hk
  ·rintro δ h' ⟨rfl,hk,x2,x3,rfl⟩;refine now ?_;rw[PC,List.drop_length]at hk;unfold cvB;simp[<-hk,look]
 obtain⟨q,h',e,rfl,rfl⟩:=jV w;exact e
def rwN(r:Nm×Int):PV:=.tup [pv r.1,.int r.2]
def LsC(kd cn:Str):Prop:=(kd="choice" /\ cn="Choice")\/(kd="bag" /\ cn="Bag")
inductive jO(h:PH)(b n:Nat)(kd:Str)(c:Nat):Prop
 |cnt (i:Int) (e:kd="count") (bc:b<=c) (g:h[c]?=some (.ins "Count" [("total",.int i)]))
 |lst (cn:Str) (s:Nat) (R:List (Nm×Int)) (e:LsC kd cn) (bc:b<=c) (g:h[c]?=some (.ins cn [("standing",.ref s)])) (bs:b<=s) (gs:h[s]?=some (.lst (R.map rwN))) (ln:R.length<=n)
variable{b b' n':Nat}
theorem jO.more(f:jO h b n kd c)(hb:b'<=b)(hn:n<=n'):jO h b' n' kd c:=by
 cases f with
 |cnt i e bc g=>exact .cnt i e (Qb hb bc) g
 |lst cn s R e bc g bs gs ln=>exact .lst cn s R e (Qb hb bc) g (Qb hb bs) gs (Qb ln hn)
def Fu(b:Nat)(h h':PH):Prop:=(∀(i:Nat) cn fs,b<=i->h[i]?=some (.ins cn fs)->h'[i]?=some (.ins cn fs))/\∀(i:Nat)(R:List (Nm×Int)),b<=i->h[i]?=some (.lst (R.map rwN))->∃R':List (Nm×Int),h'[i]?=some (.lst (R'.map rwN))/\R'.length<=R.length+1
theorem jO.und(f:jO h b n kd c)(k:Fu b h h'):jO h' b (n+1) kd c:=by
 cases f with
 |cnt i e bc g=>exact .cnt i e bc (k.1 _ _ _ bc g)
 |lst cn s R e bc g bs gs ln=>
  obtain⟨R',g',l'⟩:=k.2 s R bs gs;exact .lst cn s R' e bc (k.1 _ _ _ bc g) bs g' (by omega)
theorem Fu.of(k:∀(i:Nat) o,b<=i->h[i]?=some o->h'[i]?=some o):Fu b h h':=⟨λi cn fs hi e=>k _ _ hi e,λi R hi e=>⟨R,k _ _ hi e,Q9 _⟩⟩
theorem LsC.ne(e:LsC kd cn):cn≠"Count" := by
 rcases e with⟨_,rfl⟩|⟨_,rfl⟩ <;> decide +kernel
theorem FW{j:Nat}{fs:List (Str×PV)}(g:h[i]?=some o)(g0:h[j]?=some (.ins cn fs))(hn:∀fs,o≠.ins cn fs):i≠j:=λz=>by
 subst z;rw[g]at g0;exact hn fs (P4 g0)
variable{c0:Nat}{x:List (Str×PV)}
theorem jO.setC(f:jO h b n kd c)(g0:h[c0]?=some (.ins "Count" x))(j:Int):jO (h.set c0 (.ins "Count" [("total",.int j)])) b n kd c:=by
 have fr:∀(i:Nat) o,h[i]?=some o->(∀fs,o≠.ins "Count" fs)->(h.set c0 (.ins "Count" [("total",.int j)]))[i]?=some o:=λi o e hn=>aE e (QS (FW e g0 hn));cases f with
 |cnt i e bc g=>
  by_cases z:c=c0
  ·subst z;exact .cnt j e bc (bH g)
  ·exact .cnt i e bc (aE g (λw=>z w.symm))
 |lst cn s R e bc g bs gs ln=>exact .lst cn s R e bc (fr _ _ g λfs z=>e.ne (MO.ins.inj z).1) bs (fr _ _ gs λfs z=>nomatch z) ln
variable{R':List (Nm×Int)}
theorem jO.setL{s':Nat}{og n9:Str}(f:jO h b n kd c)(e0:LsC og n9)(g0:h[c0]?=some (.ins n9 x))(zh:b<=s')(Ph:h[s']?=some (.lst (R'.map rwN)))(Pr:R'.length<=n):jO (h.set c0 (.ins n9 [("standing",.ref s')])) b n kd c:=by
 have fr:∀(i:Nat) o,h[i]?=some o->(∀fs,o≠.ins n9 fs)->(h.set c0 (.ins n9 [("standing",.ref s')]))[i]?=some o:=λi o e hn=>aE e (QS (FW e g0 hn));cases f with
 |cnt i e bc g=>exact .cnt i e bc (fr _ _ g λfs z=>e0.ne (MO.ins.inj z).1.symm)
 |lst cn s R e bc g bs gs ln=>
  by_cases z:c=c0
  ·subst z;rw[g]at g0;have:=(MO.ins.inj (P4 g0)).1;subst this;exact .lst cn s' R' e bc (bH g) zh (fr _ _ Ph λfs z=>nomatch z) Pr
  ·exact .lst cn s R e bc (aE g (λw=>z w.symm)) bs (fr _ _ gs λfs z=>nomatch z) ln
theorem Il(hk:Ic kd)(k:∀c h',Ext h h'->jO h' h.length 0 kd c->Q (.ref c) h'):(qM [.str kd] h).W Q:=by
 refine bG ?_;unfold qL;rw[aD,bE];have lst:∀(cn:Str)(f:Fn),LsC kd cn->(∀ps h,f ps h=mFn 1 (cL "standing" (mV 0) (eJ aC)) ps h)->(gA cn 0 f aC [some (.str kd)] h).W Q:=λcn f ec ef=>by
  refine uV (ps:=[]) (h1:=h) rfl rfl ?_;rw[ef];refine bG ?_;have g:(h++[MO.ins cn []])[h.length]?=some (.ins cn []):=aF;have x0:Ext h (h++[MO.ins cn []]):=Ext.app _ _;generalize h++[MO.ins cn []]=hA at g x0;have lA:=(Pv.mp g).1;simp;have x1:Ext hA (hA++[MO.lst []]):=Ext.app _ _;have g1:=x1 _ _ g;refine⟨_,cW g1 (by simp),?_⟩;exact k _ _ ((x0.trans x1).setN (PD _)) (.lst cn hA.length [] ec (PD _) (bH g1) (by omega) (aE aF (by omega)) (by simp))
 by_cases c1:kd="count"
 ·simp[-iH,eqs,c1];refine uV (ps:=[]) (h1:=h) rfl rfl ?_;refine bG ?_;unfold eR;have g:(h++[MO.ins "Count" []])[h.length]?=some (.ins "Count" []):=aF;simp;refine⟨_,cW g (by simp),?_⟩;exact k _ _ ((Ext.app _ _).setN (PD _)) (.cnt 0 c1 (PD _) (bH g))
 simp[-iH,eqs,c1];refine now ?_;rw[aD,bE]
 by_cases c2:kd="choice"
 ·simp[-iH,eqs,c2];have:=lst "Choice" eG (.inl ⟨c2,rfl⟩) λ_ _=>rfl;rw[c2]at this;exact this
 simp[-iH,eqs,c2];refine now ?_;rw[aD,bE];have c3:kd="bag" := (hk.resolve_left c1).resolve_left c2;simp[-iH,eqs,c3];have:=lst "Bag" gI (.inr ⟨c3,rfl⟩) λ_ _=>rfl;rw[c3]at this;exact this
theorem nHC:¬ (Pz "Choice")=Pz "Count" := by decide +kernel
theorem nBC:¬ (Pz "Bag")=Pz "Count" := by decide +kernel
theorem nBH:¬ (Pz "Bag")=Pz "Choice" := by decide +kernel
theorem tbC:cO "Count" = some eB:=by simp[cO]
theorem tbH:cO "Choice" = some cX:=by simp[cO,nHC]
theorem tbB:cO "Bag" = some eL:=by simp[cO,nBC,nBH]
theorem Cv(p:Nm×Int->Bool)(R:List (Nm×Int)):R.filterMap (λr=>if p r=true then none else some (rwN r))=(R.filter λr=>!p r).map rwN:=by
 induction R with
 |nil=>rfl
 |cons r R ih=>
  rw[S3,ih,List.filter_cons];cases p r <;> simp
structure Fl1(b n:Nat)(h h':PH):Prop where
 lo:∀(i:Nat) o,i<b->h[i]?=some o->h'[i]?=some o
 ls:∀(i:Nat) xs,h[i]?=some (.lst xs)->h'[i]?=some (.lst xs)
 ln:h.length<=h'.length
 lf:∀kd c,jO h b n kd c->jO h' b (n+1) kd c
variable{R:List (Nm×Int)}{x0:List (Str×PV)}
theorem zQ{s:Nat}(x:Ext h h1)(ek:LsC kd cn)(bc:b<=c)(g:h[c]?=some (.ins cn x0))(bs:b<=s)(gs:h1[s]?=some (.lst (R.map rwN)))(lR:R.length<=n+1):Fl1 b n h (h1.set c (.ins cn [("standing",.ref s)])):=
 ⟨λi o hi e=>aE (x _ _ e) (by omega),λi xs e=>aE (x _ _ e) (λz=>by subst z;rw[g]at e;cases e),by rw[Qu];exact x.len,λog c' z=>(z.und (Fu.of λi o _ e=>x _ _ e)).setL ek (x _ _ g) bs gs lR⟩
theorem FX(bl:b<=h.length)(hn:n<=200){d:Dd}(ea:d.act=.num w th v)(hw:Bz w)(F:jO h b n (eV w) c):∃cn fs fn,h[c]?=some (.ins cn fs)/\fs.lookup ("hear" : Str)=none/\cO cn=some fn/\
  ∀Q:PV->PH->Prop,(∀h',Fl1 b n h h'->Q .non h')->(fn [.ref c,dP d] h).W Q:=by
 have ed:dP d=.tup [pv d.nm,sv d.seen,.tup [.str w,pv th,.int v]]:=by unfold dP;rw[ea];rfl
 obtain⟨k1,k2,k3⟩:=zO;cases F with
 |cnt i e bc g=>
  have:w="add" := by
   rcases hw with rfl|rfl|rfl|rfl
   ·rfl
   ·rw[fR]at e;exact absurd e k2
   ·rw[qQ]at e;exact absurd e k3
   ·rw[lK]at e;exact absurd e k3
  subst this;refine⟨_,_,eB,g,rfl,tbC,λQ k=>?_⟩;refine bG ?_;unfold jE;rw[aD,ed];simp;refine now ?_;have e1:=oY g;have e2:=cW (f:="total") (p:=.int (i+v)) g (by simp);have l1:S4 ("total" : Str) [(("total" : Str),PV.int i)]=some (.int i):=rfl;simp[Cj,e1,HN,l1,e2];exact k _ ⟨λi o hi e=>aE e (by omega),λi xs e=>aE e (λz=>by subst z;rw[g]at e;cases e),by rw[Qu];exact PD _,λkd c z=>(z.more (PD _) (Q9 n)).setC g _⟩
 |lst cn s R e bc g bs gs ln=>
  have fs:bL "standing" (.ref c) h=.ok (.ref s) h:=dZ g rfl;have n4:∀(p:Nm×Int->Bool),(R.filter λr=>!p r).length<=n:=λp=>Qb (List.length_filter_le _ _) ln;rcases hw with rfl|rfl|rfl|rfl
  ·rw[BB]at e;rcases e with⟨e,_⟩|⟨e,_⟩
   ·exact absurd e.symm k2
   ·exact absurd e.symm k3
  ·rw[fR]at e;rcases e with⟨e,rfl⟩|⟨e,_⟩
   ·refine⟨_,_,cX,g,rfl,tbH,λQ k=>?_⟩;refine bG ?_;unfold iC;rw[aD,ed];simp;refine now ?_;rw[bE];simp;rw[aD];have hc:=fW (m:=mUn (bL "standing") (mV 0)) (js:=[none,some 3]) (tg:=gN 0) (tst:=lQ (aK (aL 2 fF (aA (mV 1) (aA (aB vAt (mV 0) (mC (.int 0))) aC))))) (elt:=mV 0) (δ:=[some (.ref c),some (.tup [pv d.nm,sv d.seen,.tup [.str "choose",pv th,.int v]]),some (pv d.nm),some (sv d.seen),some (.tup [.str "choose",pv th,.int v]),none]) (h:=h) (h1:=h) (n:=s) (ys:=R) (emb:=rwN)
     (λr=>if(cvB d.seen r.1)=true then none else some (rwN r)) (by simp[fs]) gs (by omega)
     (λr hr=>⟨[some (rwN r),some (sv d.seen)],by simp[fQ],λh' _=>by
      have i0:vIx (rwN r) (.int 0) h'=.ok (pv r.1) h':=by unfold rwN;simp
      have cv:=qR d.seen r.1 h';cases hb:cvB d.seen r.1 <;> rw[hb]at cv <;> simp[i0,cv]⟩)
    rw[Cv λr=>cvB d.seen r.1]at hc;have lU:=n4 λr=>cvB d.seen r.1;generalize R.filter (λr=>!(cvB d.seen r.1))=U at hc lU;have gU:(h++[MO.lst (U.map rwN)])[h.length]?=some (.lst (U.map rwN)):=aF;have xU:Ext h (h++[MO.lst (U.map rwN)]):=Ext.app _ _;generalize h.length=lu at hc gU bl;generalize h++[MO.lst (U.map rwN)]=hU at hc gU xU;simp[hc];refine now ?_;have gN:(hU++[MO.lst [rwN (d.nm,v)]])[hU.length]?=some (.lst [rwN (d.nm,v)]):=aF;have xN:Ext hU (hU++[MO.lst [rwN (d.nm,v)]]):=Ext.app _ _;have eN:hU++[MO.lst [.tup [pv d.nm,.int v]]]=hU++[MO.lst [rwN (d.nm,v)]]:=rfl;simp;rw[eN];have pl:=qC (xN _ _ gU) gN (by simp;omega);have lN:=xN.len;have bU:=(Pv.mp gU).1;generalize hU.length=ln2 at pl gN lN bU;generalize hU++[MO.lst [rwN (d.nm,v)]]=hV at pl gN xN lN;have eP:U.map rwN++[rwN (d.nm,v)]=(U++[(d.nm,v)]).map rwN:=by simp
    rw[eP]at pl;have lP:(U++[(d.nm,v)]).length<=n+1:=by simp;omega
    generalize U++[(d.nm,v)]=P at pl lP;have gP:(hV++[MO.lst (P.map rwN)])[hV.length]?=some (.lst (P.map rwN)):=aF;have xP:Ext hV (hV++[MO.lst (P.map rwN)]):=Ext.app _ _;simp[pl];have xx:=(xU.trans xN).trans xP;exact⟨_,cW (xx _ _ g) (by simp),k _ (zQ xx (.inl ⟨e,rfl⟩) bc g (by omega) gP lP)⟩
   ·exact absurd e k1
  ·rw[qQ]at e;rcases e with⟨e,_⟩|⟨e,rfl⟩
   ·exact absurd e.symm k1
   ·refine⟨_,_,eL,g,rfl,tbB,λQ k=>?_⟩;refine bG ?_;unfold jF;rw[aD,ed];simp;refine now ?_;rw[bE];have gN:(h++[MO.lst [rwN (d.nm,v)]])[h.length]?=some (.lst [rwN (d.nm,v)]):=aF;have xN:Ext h (h++[MO.lst [rwN (d.nm,v)]]):=Ext.app _ _;have eN:h++[MO.lst [.tup [pv d.nm,.int v]]]=h++[MO.lst [rwN (d.nm,v)]]:=rfl;simp[fs];rw[eN];have pl:=qC (xN _ _ gs) gN (by simp;omega);have lN:=xN.len;generalize h.length=ln2 at pl gN lN bl;generalize h++[MO.lst [rwN (d.nm,v)]]=hV at pl gN xN lN;have eP:R.map rwN++[rwN (d.nm,v)]=(R++[(d.nm,v)]).map rwN:=by simp
    rw[eP]at pl;have lP:(R++[(d.nm,v)]).length<=n+1:=by simp;omega
    generalize R++[(d.nm,v)]=P at pl lP;have gP:(hV++[MO.lst (P.map rwN)])[hV.length]?=some (.lst (P.map rwN)):=aF;have xP:Ext hV (hV++[MO.lst (P.map rwN)]):=Ext.app _ _;simp[pl];have xx:=xN.trans xP;exact⟨_,cW (xx _ _ g) (by simp),k _ (zQ xx (.inr ⟨e,rfl⟩) bc g (by omega) gP lP)⟩
  ·rw[lK]at e;rcases e with⟨e,_⟩|⟨e,rfl⟩
   ·exact absurd e.symm k1
   ·refine⟨_,_,eL,g,rfl,tbB,λQ k=>?_⟩;refine bG ?_;unfold jF;rw[aD,ed];simp;refine now ?_;rw[bE];have hc:=fW (m:=mUn (bL "standing") (mV 0)) (js:=[none,some 4,some 3]) (tg:=gN 0) (tst:=tQ (aK (aB vNe (aB vAt (mV 0) (mC (.int 1))) (aB vAt (mV 1) (mC (.int 2))))) (lQ (aK (aL 2 fF (aA (mV 2) (aA (aB vAt (mV 0) (mC (.int 0))) aC)))))) (elt:=mV 0) (δ:=[some (.ref c),some (.tup [pv d.nm,sv d.seen,.tup [.str "take",pv th,.int v]]),some (pv d.nm),some (sv d.seen),some (.tup [.str "take",pv th,.int v])]) (h:=h) (h1:=h) (n:=s) (ys:=R) (emb:=rwN)
     (λr=>if(decide (r.2=v)&&cvB d.seen r.1)=true then none else some (rwN r)) (by simp[fs]) gs (by omega)
     (λr hr=>⟨[some (rwN r),some (.tup [.str "take",pv th,.int v]),some (sv d.seen)],by simp[fQ],λh' _=>by
      have i0:vIx (rwN r) (.int 0) h'=.ok (pv r.1) h':=by unfold rwN;simp
      have i1:vIx (rwN r) (.int 1) h'=.ok (.int r.2) h':=by unfold rwN;simp
      have cv:=qR d.seen r.1 h'
      by_cases c:r.2=v
      ·cases hb:cvB d.seen r.1 <;> rw[hb]at cv <;> simp[i0,i1,cv,c]
      ·simp[i0,i1,c]⟩)
    rw[Cv λr=>decide (r.2=v)&&cvB d.seen r.1]at hc;have lU:=n4 λr=>decide (r.2=v)&&cvB d.seen r.1;generalize R.filter (λr=>!(decide (r.2=v)&&cvB d.seen r.1))=U at hc lU;have gU:(h++[MO.lst (U.map rwN)])[h.length]?=some (.lst (U.map rwN)):=aF;have xU:Ext h (h++[MO.lst (U.map rwN)]):=Ext.app _ _;simp[hW.2.2.2.2.2.1,hc];exact⟨_,cW (xU _ _ g) (by simp),k _ (zQ xU (.inr ⟨e,rfl⟩) bc g bl gU (by omega))⟩
variable{l:Nat}
theorem Tb.ne_ins{fs:List (Str×PV)}(t:Tb h n c f)(g:h[l]?=some (.ins cn fs)):l≠n:=λz=>by
 subst z;obtain⟨E,a,_⟩:=t;simp[bI,g]at a
theorem Tb.ne_lst(t:Tb h n c f)(g:h[l]?=some (.lst xs)):l≠n:=λz=>by
 subst z;obtain⟨E,a,_⟩:=t;simp[bI,g]at a
def MkA(f:Nm->Option PV)(P:List Dd):Prop:=∀x,(kOf P x=none/\f x=none)\/∃kd z,kOf P x=some kd/\f x=some (.tup [.str kd,pv root,.str z])
def LvA(h:PH)(b n:Nat)(f:Nm->Option PV)(P:List Dd):Prop:=∀x,(kOf P x=none/\f x=none)\/∃kd c,kOf P x=some kd/\f x=some (.ref c)/\jO h b n kd c
structure FS(h:PH)(l lt lm lf ll b n:Nat)(P:List Dd):Prop where
 fo:h[l]?=some (.ins "Folding" [("tree",.ref lt),("leaves",.ref ll)])
 ti:h[lt]?=some (.ins "Tree" [("made",.ref lm),("failed",.ref lf)])
 md:∃f,Tb h lm n f/\MkA f P
 lv:∃f,Tb h ll n f/\LvA h b n f P
 ne:lm≠ll
 hi:l<b/\lt<b/\lm<b/\ll<b
 bl:b<=h.length
structure Fz(b lm ll:Nat)(h h':PH):Prop where
 lo:∀(i:Nat) o,i<b->i≠lm->i≠ll->h[i]?=some o->h'[i]?=some o
 ls:∀(i:Nat) xs,h[i]?=some (.lst xs)->h'[i]?=some (.lst xs)
theorem AI{d:Dd}(e:d.act=.make kd z)(hn:d.nm∉P.map (·.nm))(x:Nm):kOf (P++[d]) x=if x=d.nm then some kd else kOf P x:=by
 unfold kOf;rw[fH];have e1:[d].find? (mkB x)=if x=d.nm then some d else none:=by
  rw[Qv];unfold mkB;rw[e]
  by_cases c:x=d.nm
  ·rw[if_pos c,decide_eq_true c.symm];rfl
  ·rw[if_neg c,decide_eq_false (λz=>c z.symm)];rfl
 rw[e1]
 by_cases c:x=d.nm
 ·rw[if_pos c,if_pos c];have:P.find? (mkB x)=none:=List.find?_eq_none.mpr λy hy z=>hn (by
   unfold mkB at z;simp only[PZ,decide_eq_true_eq]at z;exact Qc.mpr ⟨y,hy,by rw[z.1,c]⟩)
  rw[this]
  show some (kdD d)=some kd
  unfold kdD;rw[e]
 ·rw[if_neg c,if_neg c,Option.or_none]
theorem Cw{d:Dd}(e:d.act=.num w th v)(x:Nm):kOf (P++[d]) x=kOf P x:=by
 unfold kOf;rw[fH];have e1:[d].find? (mkB x)=none:=by
  rw[Qv];unfold mkB;rw[e];simp
 rw[e1,Option.or_none]
def lZ(P:List Dd)(p:Nm):PV:=if p=root then .str "map" else match kOf P p with
 |some kd=>.str kd
 |none=>.non
theorem Im{p:Nm}:vEq (pv p) (.tup [.str "",.int 0]) h=.ok (.bl (decide (p=root))) h:=by
 rw[yN (xH (n:=39)) rfl]
 congr 2
 rw[decide_eq_decide];exact⟨λe=>nH (q:=root) e,λe=>by rw[e];rfl⟩
variable{lf ll lm:Nat}
theorem FS.ft{lt:Nat}(f:FS h l lt lm lf ll b n P):bL "tree" (.ref l) h=.ok (.ref lt) h:=dZ f.fo rfl
theorem FS.fl{lt:Nat}(f:FS h l lt lm lf ll b n P):bL "leaves" (.ref l) h=.ok (.ref ll) h:=dZ f.fo rfl
theorem FS.fm{lt:Nat}(f:FS h l lt lm lf ll b n P):bL "made" (.ref lt) h=.ok (.ref lm) h:=dZ f.ti rfl
theorem zR{lt:Nat}(f:FS h l lt lm lf ll b n P)(p:Nm):bR [.ref lt,pv p] h=.ok (lZ P p) h:=by
 obtain⟨g,t,ma⟩:=f.md;have w:(bR [.ref lt,pv p] h).W λq h'=>q=lZ P p/\h'=h:=by
  refine bG ?_;unfold gH lZ;rw[aD];simp[Im]
  by_cases e:p=root
  ·simp[e]
  ·simp[e];refine now ?_;have hh:=t.has p;rcases ma p with⟨e1,e2⟩|⟨kd,z,e1,e2⟩
   ·rw[e2]at hh;simp[f.fm,hh,e1]
   ·rw[e2]at hh;simp[f.fm,hh,t.at' e2,e1]
 obtain⟨q,h',e,rfl,rfl⟩:=jV w;exact e
theorem FY{lt:Nat}(f:FS h l lt lm lf ll b n P)(z:Str):eC [.ref lt,pv root,.str z] h=.ok (.bl true) h:=by
 have w:(eC [.ref lt,pv root,.str z] h).W λq h'=>q=.bl true/\h'=h:=by
  refine bG ?_;unfold jG;have m1:=cB (mm:="kind_of") (n:=1) (tb:=eM) (ms:=aA (mV 1) aC) (δ:=[some (.ref lt),some (pv root),some (.str z)]) (h:=h) (h1:=h) (mo:=mV 0) (k:=lt) (f:=bR) (by simp) f.ti (by simp[eM]) rfl;have k1:lZ P root=.str "map" := by unfold lZ;rw[if_pos rfl]
  have k2:=zR f root;rw[k1]at k2;simp[m1,k2,known,oP]
 obtain⟨q,h',e,rfl,rfl⟩:=jV w;exact e
theorem tbT:cO "Tree" = some dU:=by
 have n1:¬ (Pz "Tree")=Pz "Count" := by decide +kernel
 have n2:¬ (Pz "Tree")=Pz "Choice" := by decide +kernel
 have n3:¬ (Pz "Tree")=Pz "Bag" := by decide +kernel
 simp[cO,n1,n2,n3]
variable{g:Nm->Option PV}
theorem FZ{lt:Nat}(f:FS h l lt lm lf ll b n P)(hn:n<=200){d:Dd}(ea:d.act=.make kd z)(t:Tb h lm n g)(k:∀o,Tb (h.set lm o) lm (n+1) (upN g d.nm (.tup [.str kd,pv root,.str z]))->Q (.str "done") (h.set lm o)):(dU [.ref lt,dP d] h).W Q:=by
 have ed:dP d=.tup [pv d.nm,sv d.seen,.tup [.str "make",.str kd,pv root,.str z]]:=by unfold dP;rw[ea];rfl
 refine bG ?_;unfold kR;rw[aD,ed];simp;refine now ?_;rw[aD,bE];have m1:=cB (mm:="hear_make") (n:=2) (tb:=jI) (ms:=aA (mV 2) (aA (mV 4) aC)) (δ:=[some (.ref lt),some (.tup [pv d.nm,sv d.seen,.tup [.str "make",.str kd,pv root,.str z]]),some (pv d.nm),some (sv d.seen),some (.tup [.str "make",.str kd,pv root,.str z])]) (h:=h) (h1:=h) (mo:=mV 0) (k:=lt) (f:=eQ) (by simp) f.ti (by simp[jI]) rfl;simp[m1];refine bG ?_;unfold eO;rw[aD];simp;refine now ?_;rw[aD,bE];have m2:=cB (mm:="takes") (n:=2) (tb:=uO) (ms:=aA (mV 5) (aA (mV 6) aC)) (δ:=[some (.ref lt),some (pv d.nm),some (.tup [.str "make",.str kd,pv root,.str z]),some (.str "make"),some (.str kd),some (pv root),some (.str z)]) (h:=h) (h1:=h) (mo:=mV 0) (k:=lt) (f:=eC) (by simp) f.ti (by simp[uO]) rfl;simp[m2,FY f];refine now ?_;rw[aD];obtain⟨o,hp,t2⟩:=t.put (by omega) d.nm (.tup [.str kd,pv root,.str z]);have st:jH [.str z,pv d.nm] h=.ok (.str z) h:=by
  have w:(jH [.str z,pv d.nm] h).W λq h'=>q=.str z/\h'=h:=by
   refine bG ?_;unfold mW;simp[known,oP]
  obtain⟨q,h',e,rfl,rfl⟩:=jV w;exact e
 simp[st,f.fm];refine⟨_,hp,now ?_⟩;simp;exact k o t2
theorem G0{lt:Nat}(f:FS h l lt lm lf ll b n P)(hn:n<=200){d:Dd}(ea:d.act=.make kd z)(hk:Ic kd)(qj:d.nm∉P.map (·.nm))(k:∀h',Fz b lm ll h h'->FS h' l lt lm lf ll b (n+1) (P++[d])->Q (.str "done") h'):(bQ [.ref l,dP d] h).W Q:=by
 obtain⟨g,t,ma⟩:=f.md;obtain⟨g2,t2,la⟩:=f.lv;have d1:=t.ne_ins f.fo;have d2:=t2.ne_ins f.fo;have d3:=t.ne_ins f.ti;have d4:=t2.ne_ins f.ti;obtain⟨p1,p2,p3,p4⟩:=f.hi;have bl:=f.bl;refine bG ?_;unfold cU;rw[aD];have mh:=cB (mm:="hear") (n:=1) (tb:=cO) (ms:=aA (mV 1) aC) (δ:=[some (.ref l),some (dP d),none,none]) (h:=h) (h1:=h) (mo:=mUn (bL "tree") (mV 0)) (k:=lt) (f:=dU) (by simp[f.ft]) f.ti tbT rfl;simp[mh];refine FZ f hn ea t λo t1=>?_;have qq:(h.set lm o)[l]?=_:=aE f.fo (QS d1);have z7:(h.set lm o)[lt]?=_:=aE f.ti (QS d3);have vi:Tb (h.set lm o) ll n g2:=t2.keep λob e=>aE e f.ne;have vq:∀(i:Nat) xs,h[i]?=some (.lst xs)->(h.set lm o)[i]?=some (.lst xs):=λi xs e=>aE e (QS (t.ne_lst e));have vt:∀(i:Nat) ob,i≠lm->h[i]?=some ob->(h.set lm o)[i]?=some ob:=λi ob hi e=>aE e (QS hi);have ug:(h.set lm o).length=h.length:=Qu;generalize h.set lm o=h1 at t1 qq z7 vi vq vt ug;refine now ?_;rw[aD];simp[dP2];refine now ?_;rw[aD,bE];have i0:atI (aN d.act) 0=some (.str "make"):=by rw[ea];exact aR (i:=0) rfl
 have i1:atI (aN d.act) 1=some (.str kd):=by rw[ea];exact aR (i:=1) rfl
 have mA:=cB (mm:="add_leaf") (n:=2) (tb:=kU) (ms:=aA (aB vAt (mV 1) (mC (.int 0))) (aA (aB vAt (mV 3) (mC (.int 1))) aC)) (δ:=[some (.ref l),some (dP d),some (.str "done"),some (.tup (aN d.act))]) (h:=h1) (h1:=h1) (mo:=mV 0) (k:=l) (f:=dQ) (by simp) qq (by simp[kU]) rfl;generalize aN d.act=A at i0 i1 mA;simp[i0,mA,dP0,i1];refine bG ?_;unfold dO;rw[aD];simp;refine Il hk λc h2 x2 lc=>?_;refine now ?_;have y9:bL "leaves" (.ref l) h2=.ok (.ref ll) h2:=dZ (x2 _ _ qq) rfl;have nn:kC (.ref c) .non h2=.ok (.bl true) h2:=rfl;obtain⟨o3,z0,t3⟩:=(vi.ext x2).put (by omega) d.nm (.ref c);simp[nn,y9];refine⟨_,z0,now ?_⟩;simp;have kp:∀(i:Nat) ob,i≠lm->i≠ll->h[i]?=some ob->(h2.set ll o3)[i]?=some ob:=λi ob a b e=>aE (x2 _ _ (vt i ob a e)) (QS b);have p8:∀(i:Nat) ob,i≠ll->h1[i]?=some ob->(h2.set ll o3)[i]?=some ob:=λi ob b e=>aE (x2 _ _ e) (QS b);refine k _ ⟨λi ob _ a b e=>kp i ob a b e,λi xs e=>aE (x2 _ _ (vq i xs e)) (QS (t2.ne_lst e))⟩ ⟨kp _ _ d1 d2 f.fo,kp _ _ d3 d4 f.ti,⟨_,t1.keep λob e=>p8 _ _ f.ne e,λx=>?_⟩,⟨_,t3,λx=>?_⟩,f.ne,f.hi,by rw[Qu];have:=x2.len;omega⟩
 ·rw[AI ea qj]
  show _\/∃og z',_/\(if x=d.nm then _ else g x)=_
  by_cases z:x=d.nm
  ·rw[if_pos z];exact .inr ⟨kd,_,rfl,by rw[if_pos z]⟩
  ·rw[if_neg z]
   show(kOf P x=none/\(if x=d.nm then _ else g x)=none)\/_
   rw[if_neg z];exact ma x
 ·have up:∀kd c,jO h b n kd c->jO (h2.set ll o3) b (n+1) kd c:=λkd c z=>z.und (Fu.of λi ob hi e=>kp _ _ (by omega) (by omega) e);rw[AI ea qj]
  by_cases z:x=d.nm
  ·refine .inr ⟨kd,c,by rw[if_pos z],by show(if x=d.nm then _ else g2 x)=_;rw[if_pos z],?_⟩;exact(lc.more (by omega:b<=h1.length) (Qd _)).und (Fu.of λi ob hi e=>aE e (by omega))
  ·rw[if_neg z];rcases la x with⟨e1,e2⟩|⟨og,c',e1,e2,e3⟩
   ·exact .inl ⟨e1,by show(if x=d.nm then _ else g2 x)=_;rw[if_neg z];exact e2⟩
   ·exact .inr ⟨og,c',e1,by show(if x=d.nm then _ else g2 x)=_;rw[if_neg z];exact e2,up _ _ e3⟩
theorem G1(hw:Bz w)(h:PH):jJ [.str w] h=.ok (.str (eV w)) h:=by
 have w:(jJ [.str w] h).W λq h'=>q=.str (eV w)/\h'=h:=by
  refine bG ?_;unfold mX;obtain⟨a1,a2,a3,a4,a5,a6,a7,a8,a9,qb,vy,wu⟩:=hW;rcases hw with rfl|rfl|rfl|rfl
  ·rw[BB];simp[vGd,lX,gdV]
  ·rw[fR];simp[vGd,lX,gdV,a7]
  ·rw[qQ];simp[vGd,lX,gdV,a8,qb]
  ·rw[lK];simp[vGd,lX,gdV,a9,vy,wu]
 obtain⟨q,h',e,rfl,rfl⟩:=jV w;exact e
theorem inT{x:Str}(h:PH):vIn (.str x) (.tup [.str "make",.str "move",.str "drop"]) h=.ok (.bl (decide (x="make" \/ x="move" \/ x="drop"))) h:=by
 rw[Ca rfl rfl];simp
theorem inB{x:Str}(h:PH):pV (.str x) (.tup [.str "back",.str "settle"]) h=.ok (.bl (!decide (x="back" \/ x="settle"))) h:=by
 rw[Bl rfl rfl];simp
theorem nK(hw:Bz w):¬ (w="make" \/ w="move" \/ w="drop")/\¬ (w="back" \/ w="settle"):=by
 rcases hw with rfl|rfl|rfl|rfl <;> decide +kernel
theorem G2(P:List Dd)(p:Nm):(lZ P p).pl 40=true:=by
 unfold lZ;split
 ·rfl
 ·split <;> rfl
def kW(P:List Dd)(d:Dd):Str:=if idD P d=true then "idle" else "done"
theorem G3{lt:Nat}(f:FS h l lt lm lf ll b n P)(hn:n<=200){d:Dd}(D:Wf d)(rt:∀e∈P,e.nm≠root)(qj:d.nm∉P.map (·.nm))(k:∀h',Fz b lm ll h h'->FS h' l lt lm lf ll b (n+1) (P++[d])->Q (.str (kW P d)) h'):(cM [.ref l,dP d] h).W Q:=by
 refine bG ?_;unfold gJ;rw[aD];simp[dP2];refine now ?_;rw[aD,bE];cases ea:d.act with
 |make kd z=>
  have hk:=D.act;rw[ea]at hk;have mt:=cB (mm:="hear_tree") (n:=1) (tb:=jK) (ms:=aA (mV 1) aC) (δ:=[some (.ref l),some (dP d),some (.tup (aN (.make kd z)))]) (h:=h) (h1:=h) (mo:=mV 0) (k:=l) (f:=bQ) (by simp) f.fo (by simp[jK]) rfl;have i0:atI (aN (.make kd z)) 0=some (.str "make"):=aR (i:=0) rfl;have e1:kW P d="done" := by unfold kW idD;rw[ea];rfl
  rw[e1]at k;generalize aN (.make kd z)=A at mt i0;simp[i0,inT,mt];exact G0 f hn ea hk qj k
 |num w th v=>
  have hw:=D.act;rw[ea]at hw;have hw:Bz w:=hw;obtain⟨n1,n2⟩:=nK hw;have i0:atI (aN (.num w th v)) 0=some (.str w):=aR (i:=0) rfl;have i1:atI (aN (.num w th v)) 1=some (pv th):=aR (i:=1) rfl;have kr:kOf P root=none:=by
   unfold kOf;have:P.find? (mkB root)=none:=List.find?_eq_none.mpr λy hy z=>by
    unfold mkB at z;simp only[PZ,decide_eq_true_eq]at z;exact rt y hy z.1
   rw[this];rfl
  have qr:=cB (mm:="kind_of") (n:=1) (tb:=eM) (ms:=aA (aB vAt (mV 2) (mC (.int 1))) aC) (δ:=[some (.ref l),some (dP d),some (.tup (aN (.num w th v)))]) (h:=h) (h1:=h) (mo:=mUn (bL "tree") (mV 0)) (k:=lt) (f:=bR) (by simp[f.ft]) f.ti (by simp[eM]) rfl;have ne:=tT (h:=h) (G2 P th) (y:=.str (eV w)) rfl;have wa:(lZ P th=.str (eV w))↔idD P d=false:=by
   unfold idD lZ;rw[ea]
   show _↔decide (kOf P th≠some (eV w))=false
   by_cases c:th=root
   ·rw[if_pos c,c,kr];simp;rcases hw with rfl|rfl|rfl|rfl
    ·rw[BB];decide +kernel
    ·rw[fR];decide +kernel
    ·rw[qQ];decide +kernel
    ·rw[lK];decide +kernel
   ·rw[if_neg c];cases kOf P th with
    |none=>simp
    |some x=>simp
  simp[-As,-kK,i0];rw[As,inT];simp[n1];refine now ?_;rw[aD,bE];have grow:∀h',FS h' l lt lm lf ll b (n+1) P->FS h' l lt lm lf ll b (n+1) (P++[d]):=λh' g=>⟨g.fo,g.ti,let ⟨a,b,c⟩:=g.md;⟨a,b,λx=>by rw[Cw ea];exact c x⟩,let ⟨a,b,c⟩:=g.lv;⟨a,b,λx=>by rw[Cw ea];exact c x⟩,g.ne,g.hi,g.bl⟩;have more:FS h l lt lm lf ll b (n+1) P:=⟨f.fo,f.ti,let ⟨a,b,c⟩:=f.md;⟨a,b.more (Q9 _),c⟩,let ⟨a,b,c⟩:=f.lv;⟨a,b.more (Q9 _),λx=>(c x).imp id λ⟨kd,c,p,q,r⟩=>⟨kd,c,p,q,r.more (PD _) (Q9 _)⟩⟩,f.ne,f.hi,f.bl⟩;generalize hA:aN (.num w th v)=A at i0 i1 qr;simp[-kK,i0];rw[kK,inB];simp[n2];rw[aD,bE];cases ei:idD P d with
  |true=>
   have c:¬ lZ P th=.str (eV w):=λz=>by have:=wa.mp z;rw[ei]at this;cases this
   rw[decide_eq_false c]at ne;have e1:kW P d="idle" := by unfold kW;rw[ei];rfl
   rw[e1]at k;simp[qr,i1,i0,zR f,G1 hw,ne];exact k _ ⟨λ_ _ _ _ _ e=>e,λ_ _ e=>e⟩ (grow _ more)
  |false=>
   have c:=wa.mpr ei;rw[decide_eq_true c]at ne;have e1:kW P d="done" := by unfold kW;rw[ei];rfl
   rw[e1]at k;simp[qr,i1,i0,zR f,G1 hw,ne];refine now ?_;obtain⟨g,t,la⟩:=f.lv;have ko:kOf P th=some (eV w):=by
    unfold idD at ei;rw[ea]at ei;exact Classical.byContradiction λz=>of_decide_eq_false ei z
   rcases la th with⟨e2,_⟩|⟨kd,c,e2,e3,e4⟩
   ·rw[ko]at e2;cases e2
   ·rw[ko]at e2;cases e2
    obtain⟨cn,fs,fn,g1,g2,g3,g4⟩:=FX f.bl hn ea hw e4;have ml:=cB (mm:="hear") (n:=1) (tb:=cO) (ms:=aA (mV 1) aC) (δ:=[some (.ref l),some (dP d),some (.tup A)]) (h:=h) (h1:=h) (mo:=aB vAt (mUn (bL "leaves") (mV 0)) (aB vAt (mV 2) (mC (.int 1)))) (k:=c) (f:=fn) (by simp[f.fl,i1,t.at' e3]) g1 g3 g2;simp[ml];refine g4 _ λh' fl=>?_;refine now ?_;simp;obtain⟨p1,p2,p3,p4⟩:=f.hi;refine k _ ⟨λi o hi _ _ e=>fl.lo i o hi e,fl.ls⟩ (grow _ ⟨fl.lo _ _ p1 f.fo,fl.lo _ _ p2 f.ti,let ⟨a,b,c⟩:=f.md;⟨a,(b.keep λo e=>fl.lo _ _ p3 e).more (Q9 _),c⟩,⟨g,(t.keep λo e=>fl.lo _ _ p4 e).more (Q9 _),λx=>(la x).imp id λ⟨kd,c,p,q,r⟩=>⟨kd,c,p,q,fl.lf _ _ r⟩⟩,f.ne,f.hi,Qb f.bl fl.ln⟩)
theorem DM(e:h[n]?=some (.lst xs)):wL [.ref n] h=.ok (.ref h.length) (h++[.lst xs]):=by
 have:aO h n=some xs:=by unfold aO;rw[e]
 unfold wL;simp[this]
variable{a:Nat}
theorem kX{f:Str}{fs:List (Str×PV)}{r:Ev}(g:h[a]?=some (.ins cn fs))(l:fs.length<1000)(k:∀h',(∀(i:Nat) o,i≠a->h[i]?=some o->h'[i]?=some o)->h'[a]?=some (.ins cn (vJ f (.ref h.length) fs))->h'[h.length]?=some (.dK [])->h'.length=h.length+1->E.nx (some (.ref a)::r) h'):(cL f (mV 0) cK (some (.ref a)::r) h).W E:=by
 have ha:=(Pv.mp g).1;simp only[Fm,Dq,rV,Mz,Dh];refine⟨_,cW (Ext.app _ _ _ _ g) l,k _ (λi o hi e=>aE (Ext.app _ _ _ _ e) (QS hi)) (bH (Ext.app _ _ _ _ g)) (aE aF (by omega)) (by simp)⟩
theorem G4(k:∀h' x y,Ext h h'->h'[h.length]?=some (.ins "Tree" [("made",x),("failed",y)])->Q (.ref h.length) h'):(gA "Tree" 0 fN aC δ h).W Q:=by
 refine uV (ps:=[]) (h1:=h) rfl rfl ?_;refine bG ?_;unfold fM;have g1:(h++[MO.ins "Tree" []])[h.length]?=some (.ins "Tree" []):=aF;have x1:Ext h (h++[MO.ins "Tree" []]):=Ext.app _ _;generalize h++[MO.ins "Tree" []]=hA at g1 x1;rw[aD];refine kX g1 (by simp) λhB si gB dB lB=>now ?_;simp;refine⟨_,cW (Ext.app _ _ _ _ gB) (show 1<1000 by omega),?_⟩;exact k _ _ _ (λi o e=>have hi:=(Pv.mp e).1;aE (Ext.app _ _ _ _ (si _ _ (by omega) (x1 _ _ e))) (by omega)) (bH (Ext.app _ _ _ _ gB))
variable{la:Nat}
theorem G5{lb:Nat}{x y:PV}(g:h[l]?=some (.ins "Tree" [("made",x),("failed",y)]))(ga:h[la]?=some (.lst []))(gb:h[lb]?=some (.lst []))(k:∀lm lf h',(∀(i:Nat) o,i≠l->h[i]?=some o->h'[i]?=some o)->h.length<=lm->h'[l]?=some (.ins "Tree" [("made",.ref lm),("failed",.ref lf)])->h'[lm]?=some (.dK [])->Q .non h'):(gY [.ref l,.ref la,.ref lb] h).W Q:=by
 have na:la≠l:=λz=>by subst z;rw[g]at ga;cases ga
 have nb:lb≠l:=λz=>by subst z;rw[g]at gb;cases gb
 have hl:=(Pv.mp g).1;refine bG ?_;unfold kQ;rw[aD];refine kX g (by simp) λhA qv g2 yh lA=>?_;have g2:hA[l]?=some (.ins "Tree" [("made",.ref h.length),("failed",y)]):=g2;refine now ?_;rw[aD];refine zN (n:=la) (h1:=hA) (by simp) (qv _ _ na ga) ?_;refine now ?_;simp[DM (qv _ _ nb gb)];have x3:Ext hA (hA++[MO.lst []]):=Ext.app _ _;refine⟨_,cW (x3 _ _ g2) (by simp),?_⟩;exact k h.length hA.length _ (λi o hi e=>aE (x3 _ _ (qv i o hi e)) (QS hi)) (PD _) (bH (x3 _ _ g2)) (aE (x3 _ _ yh) (by omega))
variable{lr:Nat}
theorem G6{h0:PH}(x0:Ext h0 h){lx:Nat}(g:h[h0.length]?=some (.ins "Folding" []))(gr:h[lr]?=some (.lst []))(gx:h[lx]?=some (.lst []))(k:∀lt lm lf ll h',Ext h0 h'->h0.length<=lm->h0.length<=ll->FS h' h0.length lt lm lf ll h'.length 0 []->Q .non h'):(dJ [.ref h0.length,.tup [.ref lr,.ref lx]] h).W Q:=by
 have nr:lr≠h0.length:=λz=>by subst z;rw[g]at gr;cases gr
 have nx:lx≠h0.length:=λz=>by subst z;rw[g]at gx;cases gx
 have hl:=(Pv.mp g).1;refine bG ?_;unfold dI;rw[aD];simp;refine now ?_;rw[aD,Fm];refine G4 λh1 x y x1 t1=>?_;simp;refine⟨_,cW (x1 _ _ g) (by simp),?_⟩;have xA:Ext h0 (h1.set h0.length (MO.ins "Folding" (vJ "tree" (.ref h.length) []))):=(x0.trans x1).setN (PD _);have fr:∀(i:Nat) o,i≠h0.length->h1[i]?=some o->(h1.set h0.length (MO.ins "Folding" (vJ "tree" (.ref h.length) [])))[i]?=some o:=λi o hi e=>aE e (QS hi);have f2:(h1.set h0.length (MO.ins "Folding" (vJ "tree" (.ref h.length) [])))[h0.length]?=some (.ins "Folding" [("tree",.ref h.length)]):=bH (x1 _ _ g);have t2:=fr _ _ (by omega) t1;have r2:=fr _ _ nr (x1 _ _ gr);have y2:=fr _ _ nx (x1 _ _ gx);have l1:=x1.len;generalize h1.set h0.length (MO.ins "Folding" (vJ "tree" (.ref h.length) []))=h2 at xA f2 t2 r2 y2;clear fr;have l3:=(Pv.mp t2).1;refine now ?_;rw[aD];have hc:=fW (m:=mV 2) (js:=[none]) (tg:=gN 0) (tst:=mI) (elt:=mSl (mV 0) kE (mP (mC (.int 4)))) (δ:=[some (.ref h0.length),some (.tup [.ref lr,.ref lx]),some (.ref lr),some (.ref lx),none,none,none,none,none]) (h:=h2) (h1:=h2) (n:=lr) (ys:=([]:List PV)) (emb:=id) (λt=>none) (by simp) r2 (by simp) (λt ht=>nomatch ht);have x3:Ext h2 (h2++[MO.lst []]):=Ext.app _ _;have r3:(h2++[MO.lst []])[h2.length]?=some (.lst []):=aF;have hc:bV [none] (aU (mV 2)) (gN 0) mI (mSl (mV 0) kE (mP (mC (.int 4)))) [some (.ref h0.length),some (.tup [.ref lr,.ref lx]),some (.ref lr),some (.ref lx),none,none,none,none,none] h2=.ok (.ref h2.length) (h2++[MO.lst []]):=hc;generalize h2.length=l4 at hc r3 l3;generalize h2++[MO.lst []]=h3 at hc r3 x3;have l5:=(Pv.mp r3).1;have mf:=cB (mm:="fill") (n:=2) (tb:=zI) (ms:=aA (bV [none] (aU (mV 2)) (gN 0) mI (mSl (mV 0) kE (mP (mC (.int 4))))) (aA (mV 3) aC)) (δ:=[some (.ref h0.length),some (.tup [.ref lr,.ref lx]),some (.ref lr),some (.ref lx),none,none,none,none,none]) (h:=h2) (h1:=h2) (mo:=mUn (bL "tree") (mV 0)) (k:=h.length) (f:=gY) (by have:bL "tree" (.ref h0.length) h2=.ok (.ref h.length) h2:=dZ f2 rfl;simp[this]) t2 (by simp[zI]) rfl;rw[Mx,mf];simp[hc];refine G5 (x3 _ _ t2) r3 (x3 _ _ y2) λlm lf h4 k4 lm4 t4 m4=>?_;have OW:=k4 _ _ (by omega) (x3 _ _ f2);have x4:Ext h0 h4:=λi o e=>k4 i o (by have:=(Pv.mp e).1;omega) ((xA.trans x3) _ _ e);have r4:=k4 _ _ (by intro z;subst z;rw[t2]at r2;cases r2) (x3 _ _ r2);have b4:=(Pv.mp m4).1;have d4:=(Pv.mp t4).1;have x34:=x3.len;refine now ?_;rw[aD];refine kX OW (by simp) λh6 i9 f6 g6 l6=>?_;have f6:h6[h0.length]?=some (.ins "Folding" [("tree",.ref h.length),("leaves",.ref h4.length)]):=f6;refine now ?_;refine zN (n:=lr) (h1:=h6) (by simp) (i9 _ _ nr r4) ?_;exact k h.length lm lf h4.length _ (λi o e=>i9 i o (by have:=(Pv.mp e).1;omega) (x4 _ _ e)) (by omega) (by omega) ⟨f6,i9 _ _ (by omega) t4,⟨_,Tb.nil (i9 _ _ (by omega) m4),λx=>.inl ⟨rfl,rfl⟩⟩,⟨_,Tb.nil g6,λx=>.inl ⟨rfl,rfl⟩⟩,by omega,⟨by omega,by omega,by omega,by omega⟩,PD _⟩
theorem FS.base{lt:Nat}(f:FS h l lt lm lf ll b 0 [])(x:Ext h h')(hb:b<=b')(hl:b'<=h'.length):FS h' l lt lm lf ll b' 0 []:=by
 obtain⟨p1,p2,p3,p4⟩:=f.hi;exact⟨x _ _ f.fo,x _ _ f.ti,let ⟨a,b,c⟩:=f.md;⟨a,b.ext x,c⟩,let ⟨a,b,c⟩:=f.lv;⟨a,b.ext x,λy=>(c y).imp id λ⟨kd,_,z,_⟩=>nomatch z⟩,f.ne,⟨by omega,by omega,by omega,by omega⟩,hl⟩
theorem G7(h:PH):sF [] h=.ok (.tup [.ref h.length,.ref (h.length+1)]) (h++[.lst []]++[.lst []]):=by
 have w:(sF [] h).W λq h'=>q=.tup [.ref h.length,.ref (h.length+1)]/\h'=h++[.lst []]++[.lst []]:=by
  refine bG ?_;unfold zJ;simp
 obtain⟨q,h',e,rfl,rfl⟩:=jV w;exact e
structure NAt(h:PH)(b n:Nat)(N:Nm->List (Nm×Int))(A:Nm->Option Nat):Prop where
 at':∀x a,A x=some a->b<=a/\h[a]?=some (.lst ((N x).map rwN))
 no:∀x,A x=none->N x=[]
 inj:∀x y a,A x=some a->A y=some a->x=y
 ln:∀x,(N x).length<=n
structure UAt(h:PH)(lu b m n:Nat)(U:Nm->Option Nm)(N:Nm->List (Nm×Int)):Prop where
 ins:∃fs,h[lu]?=some (.ins "Undoing" fs)/\fs.lookup ("undone" : Str)=some (.ref (lu+1))/\fs.lookup ("placers" : Str)=some (.ref (lu+2))/\fs.lookup ("numbers" : Str)=some (.ref (lu+3))/\fs.lookup ("hear" : Str)=none/\fs.lookup ("undo_numbers" : Str)=none
 un:Tb h (lu+1) m (λx=>(U x).map pv)
 pl:∃f,Tb h (lu+2) n f
 nu:∃A,Tb h (lu+3) n (λx=>(A x).map .ref)/\NAt h b n N A
 hb:lu+3<b
variable{A:Nm->Option Nat}{N:Nm->List (Nm×Int)}
theorem NAt.keep(a:NAt h b n N A)(k:∀(i:Nat) xs,b<=i->h[i]?=some (.lst xs)->h'[i]?=some (.lst xs)):NAt h' b n N A:=⟨λx i e=>let ⟨p,q⟩:=a.at' x i e;⟨p,k _ _ p q⟩,a.no,a.inj,a.ln⟩
variable{U:Nm->Option Nm}{lu:Nat}
theorem UAt.keep(u:UAt h lu b m n U N)(k:∀(i:Nat) o,lu<=i->i<=lu+3->h[i]?=some o->h'[i]?=some o)(kl:∀(i:Nat) xs,h[i]?=some (.lst xs)->h'[i]?=some (.lst xs)):UAt h' lu b m n U N:=
 ⟨let ⟨fs,a,r⟩:=u.ins;⟨fs,k _ _ (by omega) (by omega) a,r⟩,u.un.keep λo e=>k _ _ (by omega) (by omega) e,let ⟨f,t⟩:=u.pl;⟨f,t.keep λo e=>k _ _ (by omega) (by omega) e⟩,let ⟨A,t,a⟩:=u.nu;⟨A,t.keep λo e=>k _ _ (by omega) (by omega) e,a.keep λi xs _ e=>kl i xs e⟩,u.hb⟩
theorem UAt.more{m':Nat}(u:UAt h lu b m n U N)(hm:m<=m')(hn:n<=n'):UAt h lu b m' n' U N:=
 ⟨u.ins,u.un.more hm,let ⟨f,t⟩:=u.pl;⟨f,t.more hn⟩,let ⟨A,t,a⟩:=u.nu;⟨A,t.more hn,a.at',a.no,a.inj,λx=>Qb (a.ln x) hn⟩,u.hb⟩
theorem Tb.dom(t:Tb h n c f)(L:List Nm)(hL:∀x,(f x).isSome=true->x∈L):Tb h n L.length f:=by
 obtain⟨E,a,_,nd,e⟩:=t;refine⟨E,a,?_,nd,e⟩;have:=Sf nd λp hp=>hL p (by rw[<-e];exact sH.mpr hp);rw[PC]at this;exact this
theorem UAt.dom(u:UAt h lu b m n U N)(L:List Nm)(hL:∀x,(U x).isSome=true->x∈L):UAt h lu b L.length n U N:=
 ⟨u.ins,u.un.dom L λx hx=>hL x (by rw[R5]at hx;exact hx),u.pl,u.nu,u.hb⟩
theorem G8(k:∀h',Ext h h'->h'.length=h.length+6->(∀b,h.length+3<b->UAt h' h.length b 0 0 (λ_=>none) (λ_=>[]))->Q (.ref h.length) h'):(gA "Undoing" 0 dN aC δ h).W Q:=by
 refine uV (ps:=[]) (h1:=h) rfl rfl ?_;refine bG ?_;unfold dM;have g1:(h++[MO.ins "Undoing" []])[h.length]?=some (.ins "Undoing" []):=aF;have x1:Ext h (h++[MO.ins "Undoing" []]):=Ext.app _ _;have l1:(h++[MO.ins "Undoing" []]).length=h.length+1:=by simp
 generalize h++[MO.ins "Undoing" []]=hA at g1 x1 l1;rw[aD];refine kX g1 (by simp) λhB si gB dB lB=>now ?_;rw[aD];refine kX gB (show 1<1000 by omega) λhC wm gC dC lC=>now ?_;rw[aD];refine kX gC (show 2<1000 by omega) λhD uu gD dD lD=>now ?_;rw[aD];refine kX gD (show 3<1000 by omega) λhE yo gE dE lE=>now ?_;refine kX gE (show 4<1000 by omega) λhF y8 gF dF lF=>⟨rfl,?_⟩;have fr:∀(i:Nat) o,i≠h.length->hD[i]?=some o->hF[i]?=some o:=λi o hi e=>y8 _ _ hi (yo _ _ hi e);have u1:=fr _ _ (by omega) (uu _ _ (by omega) (wm _ _ (by omega) dB));have u2:=fr _ _ (by omega) (uu _ _ (by omega) dC);have u3:=fr _ _ (by omega) dD;rw[l1]at u1 gF;rw[lB,l1]at u2 gF;rw[lC,lB,l1]at u3 gF;refine k hF (λi o e=>have hi:=(Pv.mp e).1;fr _ _ (by omega) (uu _ _ (by omega) (wm _ _ (by omega) (si _ _ (by omega) (x1 _ _ e))))) (by omega) λb hb=>⟨⟨_,gF,rfl,rfl,rfl,rfl,rfl⟩,Tb.nil u1,⟨_,Tb.nil u2⟩,⟨λ_=>none,Tb.nil u3,(λx a e=>nomatch e),(λ_ _=>rfl),(λx y a e=>nomatch e),λ_=>PD _⟩,hb⟩
def jP(same:Bool)(S:Seen)(v:Int)(r:Nm×Int):Bool:=cvB S r.1&&(decide (r.2=v) || !same)
theorem AJ(S:Seen)(v:Int):hits "choose" S v=jP false S v:=by
 funext r
 unfold hits jP;simp
theorem DN(S:Seen)(v:Int):hits "take" S v=jP true S v:=by
 funext r
 unfold hits jP;simp[hW.2.2.2.2.1]
def pG(R:List (Nm×Int))(hit:Nm×Int->Bool)(U:Nm->Option Nm)(nm x:Nm):Option Nm:=if R.any (λr=>decide (r.1=x)&&hit r)=true then some nm else U x
variable{hit:Nm×Int->Bool}{nm:Nm}{r:Nm×Int}
theorem xJ(x:Nm):pG (R++[r]) hit U nm x=if x=r.1/\hit r=true then some nm else pG R hit U nm x:=by
 unfold pG;rw[List.any_append];simp only[RI,List.any_nil,Bool.or_false]
 by_cases c:x=r.1/\hit r=true
 ·rw[if_pos c,if_pos (by rw[decide_eq_true c.1.symm,c.2];simp)]
 ·rw[if_neg c];have:(decide (r.1=x)&&hit r)=false:=by
   cases h:hit r with
   |false=>simp
   |true=>simp;exact λz=>c ⟨z.symm,h⟩
  rw[this,Bool.or_false]
theorem UAt.fu(u:UAt h lu b m n U N):bL "undone" (.ref lu) h=.ok (.ref (lu+1)) h:=let ⟨_,a,b,_⟩:=u.ins;dZ a b
theorem UAt.fp(u:UAt h lu b m n U N):bL "placers" (.ref lu) h=.ok (.ref (lu+2)) h:=let ⟨_,a,_,b,_⟩:=u.ins;dZ a b
theorem UAt.fn(u:UAt h lu b m n U N):bL "numbers" (.ref lu) h=.ok (.ref (lu+3)) h:=let ⟨_,a,_,_,b,_⟩:=u.ins;dZ a b
def UI(d:Dd)(th:Nm)(same:Bool)(lu s1 m:Nat)(h1:PH)(U:Nm->Option Nm)(R:List (Nm×Int))(v:Int)(A:List PV)(q:Nat)(δ:Ev)(h':PH):Prop:=(∀(i:Nat) o,i≠lu+1->i≠s1->h1[i]?=some o->h'[i]?=some o)/\Tb h' (lu+1) (m+q) (λx=>(pG (R.take q) (jP same d.seen v) U d.nm x).map pv)/\h'[s1]?=some (.lst (((R.take q).filter λr=>!jP same d.seen v r).map rwN))/\∃x7,δ=[some (.ref lu),some (dP d),some (.bl same),some (pv d.nm),some (sv d.seen),some (.tup A),some (.ref s1),x7]
theorem Cy(u:UAt h lu b m n U N)(hb:b<=h.length)(hn:m<=200/\n<=200){d:Dd}(ea:d.act=.num w th v)(same:Bool)(k:∀h' A,(∀(i:Nat) o,i≠lu+1->i≠lu+3->h[i]?=some o->h'[i]?=some o)->UAt h' lu b (m+n) (n+1) (pG (N th) (jP same d.seen v) U d.nm) (upF N th ((N th).filter λr=>!jP same d.seen v r))->Tb h' (lu+3) (n+1) (λx=>(A x).map .ref)->NAt h' b (n+1) (upF N th ((N th).filter λr=>!jP same d.seen v r)) A->A th=some h.length->Q .non h'):(bB [.ref lu,dP d,.bl same] h).W Q:=by
 refine bG ?_;unfold bX;rw[aD];have i1:atI (aN d.act) 1=some (pv th):=by rw[ea];exact aR (i:=1) rfl
 have i2:atI (aN d.act) 2=some (.int v):=by rw[ea];exact aR (i:=2) rfl
 simp;refine⟨[some (.ref lu),some (dP d),some (.bl same),some (pv d.nm),some (sv d.seen),some (.tup (aN d.act)),none,none],by simp[dP],?_⟩;generalize aN d.act=A at i1 i2;refine now ?_;rw[aD];simp;have x1:Ext h (h++[MO.lst []]):=Ext.app _ _;have gs:(h++[MO.lst []])[h.length]?=some (.lst []):=aF;have ug:(h++[MO.lst []]).length=h.length+1:=by simp
 generalize h++[MO.lst []]=h1 at x1 gs ug;refine now ?_;rw[aD];have pf:lu+3<h.length:=by have:=u.hb;omega
 obtain⟨A1,t1,cb⟩:=u.nu;have lR:=cb.ln th;have j9:∀x a,A1 x=some a->a<h.length:=λx a e=>(Pv.mp (cb.at' x a e).2).1;have x2:Ext h1 (h1++[MO.lst []]):=Ext.app _ _;have xx:=x1.trans x2;have xt:=x2 _ _ gs;have u1:UAt h1 lu b m n U N:=u.keep (λi o _ _ e=>x1 _ _ e) λi xs e=>x1 _ _ e;have u2:UAt (h1++[MO.lst []]) lu b m n U N:=u.keep (λi o _ _ e=>xx _ _ e) λi xs e=>xx _ _ e;obtain⟨a,ga,gl,na,ba⟩:∃a,kJ (.ref (lu+3)) [pv th,.ref h1.length] (h1++[MO.lst []])=.ok (.ref a) (h1++[MO.lst []])/\(h1++[MO.lst []])[a]?=some (.lst ((N th).map rwN))/\a≠h.length/\lu+3<a:=by
  have g:=(t1.ext xx).get th (.ref h1.length);have:=u.hb;cases e:A1 th with
  |none=>rw[e]at g;exact⟨h1.length,g,by rw[cb.no th e];exact aF,by omega,by omega⟩
  |some a=>
   rw[e]at g;have:=j9 th a e;obtain⟨p,q⟩:=cb.at' th a e;exact⟨a,g,xx _ _ q,by omega,by omega⟩
 have rj:bO (.ref (lu+3)) h1=true:=(t1.ext x1).dict;have em:mMt bO kJ (mUn (bL "numbers") (mV 0)) (aA (aB vAt (mV 5) (mC (.int 1))) (aA (eJ aC) aC)) [some (.ref lu),some (dP d),some (.bl same),some (pv d.nm),some (sv d.seen),some (.tup A),some (.ref h.length),none] h1=.ok (.ref a) (h1++[MO.lst []]):=by
  simp[u1.fn,rj,i1,ga]
 generalize hN:N th=R at gl lR;generalize h1++[MO.lst []]=h2 at em gl x2 xt u2 ga xx;refine iW (n:=a) (xs:=R.map rwN) (h1:=h2) (UI d th same lu h.length m h2 U R v A) em gl ⟨λ_ _ _ _ e=>e,u2.un,xt,_,rfl⟩ (λq δ h' _ i=>i.1 _ _ (by omega) na gl) ?_ ?_
 ·rintro q y δ h' hy ⟨fr,t,g,x7,rfl⟩;rw[PQ]at hy;obtain⟨r,hr,rfl⟩:=Qa.mp hy;have hq:q<R.length:=(Pv.mp hr).1;have tk:R.take (q+1)=R.take q++[r]:=by rw[QP,hr];rfl
  refine⟨_,rfl,?_⟩;unfold bM;rw[bE];have r0:vIx (rwN r) (.int 0) h'=.ok (pv r.1) h':=by unfold rwN;simp
  have r1:vIx (rwN r) (.int 1) h'=.ok (.int r.2) h':=by unfold rwN;simp
  have cv:=qR d.seen r.1 h';obtain⟨fs,f1,f2,_⟩:=u2.ins;have fu:bL "undone" (.ref lu) h'=.ok (.ref (lu+1)) h':=dZ (fr _ _ (by omega) (by omega) f1) f2;have yes:jP same d.seen v r=true->∃h4,gG (.ref (lu+1)) (pv r.1) (pv d.nm) h'=some h4/\UI d th same lu h.length m h2 U R v A (q+1) [some (.ref lu),some (dP d),some (.bl same),some (pv d.nm),some (sv d.seen),some (.tup A),some (.ref h.length),some (rwN r)] h4:=λhh=>by
   obtain⟨o,hp,t'⟩:=t.put (by omega) r.1 (pv d.nm);refine⟨_,hp,λi o a b e=>aE (fr i o a b e) (QS a),?_,?_,_,rfl⟩
   ·have e:upN (λx=>(pG (R.take q) (jP same d.seen v) U d.nm x).map pv) r.1 (pv d.nm)=λx=>(pG (R.take (q+1)) (jP same d.seen v) U d.nm x).map pv:=by
     funext x
     rw[tk,xJ]
     show(if x=r.1 then some (pv d.nm) else _)=_
     by_cases c:x=r.1
     ·rw[if_pos c,if_pos ⟨c,hh⟩];rfl
     ·rw[if_neg c,if_neg (λz=>c z.1)]
    rw[e]at t';exact t'
   ·rw[tk,List.filter_append,List.filter_cons,hh];simp only[Bool.not_true,Qh,if_false,List.filter_nil,Ru];exact aE g (by omega)
  have no:jP same d.seen v r=false->∃ys,isL (.ref h.length) h'=true/\onL bA (.ref h.length) [rwN r] h'=.ok .non (h'.set h.length (.lst ys))/\UI d th same lu h.length m h2 U R v A (q+1) [some (.ref lu),some (dP d),some (.bl same),some (pv d.nm),some (sv d.seen),some (.tup A),some (.ref h.length),some (rwN r)] (h'.set h.length (.lst ys)):=λhh=>by
   have lf:((R.take q).filter λr=>!jP same d.seen v r).length<=q:=Qb (List.length_filter_le _ _) (by rw[QK];omega);refine⟨_,iV g,dH g (by rw[PC];omega),λi o a b e=>aE (fr i o a b e) (QS b),?_,?_,_,rfl⟩
   ·have e:(λx=>(pG (R.take (q+1)) (jP same d.seen v) U d.nm x).map pv)=λx=>(pG (R.take q) (jP same d.seen v) U d.nm x).map pv:=by
     funext x
     rw[tk,xJ,if_neg (λz=>by rw[hh]at z;cases z.2)]
    rw[e];exact(t.keep λo e=>aE e (by omega)).more (by omega)
   ·rw[tk,List.filter_append,List.filter_cons,hh];simp only[Bool.not_false,if_true,List.filter_nil,Qq,P0,List.map_nil];exact bH g
  unfold jP at yes no;cases c1:cvB d.seen r.1 with
  |false=>
   rw[c1]at cv no;obtain⟨ys,p1,p2,p3⟩:=no (by simp);simp[r0,cv,p1,p2];exact p3
  |true=>
   rw[c1]at cv yes no
   by_cases c2:r.2=v
   ·obtain⟨h4,p1,p2⟩:=yes (by simp[c2]);simp[r0,r1,cv,i2,c2,fu,p1];exact p2
   ·cases same with
    |false=>
     obtain⟨h4,p1,p2⟩:=yes (by simp);simp[r0,r1,cv,i2,c2,fu,p1];exact p2
    |true=>
     obtain⟨ys,p1,p2,p3⟩:=no (by simp[c2]);simp[r0,r1,cv,i2,c2,p1,p2];exact p3
 ·rintro δ h' ⟨fr,t,g,x7,rfl⟩;rw[PC]at t g;rw[RF]at t g;refine now ?_;obtain⟨fs,f1,f2,f3,f4,f5⟩:=u2.ins;have xi:=fr _ _ (by omega) (by omega) f1;have fn:bL "numbers" (.ref lu) h'=.ok (.ref (lu+3)) h':=dZ xi f4;have t3:Tb h' (lu+3) n (λx=>(A1 x).map .ref):=(t1.ext xx).keep λo e=>fr _ _ (by omega) (by omega) e;obtain⟨o,hp,t4⟩:=t3.put (by omega) th (.ref h.length);have eA:upN (λx=>(A1 x).map PV.ref) th (.ref h.length)=λx=>(upF A1 th (some h.length) x).map .ref:=by
   funext x
   show(if x=th then some _ else(A1 x).map _)=(if x=th then some _ else A1 x).map _
   split <;> rfl
  rw[eA]at t4;simp[fn,i1];refine⟨_,hp,?_⟩;have sg:∀(i:Nat) ob,i≠lu+1->i≠lu+3->i≠h.length->h2[i]?=some ob->(h'.set (lu+3) o)[i]?=some ob:=λi ob p q r e=>aE (fr i ob p r e) (QS q);have nA:NAt (h'.set (lu+3) o) b (n+1) (upF N th (R.filter λr=>!jP same d.seen v r)) (upF A1 th (some h.length)):=by
   refine⟨λx a e=>?_,λx e=>?_,λx y a e1 e2=>?_,λx=>?_⟩
   ·have e:(if x=th then some h.length else A1 x)=some a:=e
    show _/\_=some (MO.lst ((if x=th then _ else N x).map rwN))
    by_cases z:x=th
    ·rw[if_pos z]at e⊢;cases e
     exact⟨hb,aE g (by omega)⟩
    ·rw[if_neg z]at e⊢;have:=j9 x a e;obtain⟨p,q⟩:=cb.at' x a e;have:=u.hb;exact⟨p,sg _ _ (by omega) (by omega) (by omega) (xx _ _ q)⟩
   ·have e:(if x=th then some h.length else A1 x)=none:=e
    show(if x=th then _ else N x)=[]
    by_cases z:x=th
    ·rw[if_pos z]at e;cases e
    ·rw[if_neg z]at e⊢;exact cb.no x e
   ·have e1:(if x=th then some h.length else A1 x)=some a:=e1;have e2:(if y=th then some h.length else A1 y)=some a:=e2
    by_cases z1:x=th <;> by_cases z2:y=th
    ·rw[z1,z2]
    ·rw[if_pos z1]at e1;rw[if_neg z2]at e2;cases e1;have:=j9 y _ e2;omega
    ·rw[if_neg z1]at e1;rw[if_pos z2]at e2;cases e2;have:=j9 x _ e1;omega
    ·rw[if_neg z1]at e1;rw[if_neg z2]at e2;exact cb.inj x y a e1 e2
   ·show(if x=th then _ else N x).length<=n+1
    split
    ·exact Qb (List.length_filter_le _ _) (by omega)
    ·exact Nat.le_succ_of_le (cb.ln x)
  have tu:Tb (h'.set (lu+3) o) (lu+1) (m+n) (λx=>(pG R (jP same d.seen v) U d.nm x).map pv):=(t.keep λob e=>aE e (by omega)).more (by omega);obtain⟨fp,tp⟩:=u2.pl;have j8:N th=R:=hN;subst j8;exact k _ _ (λi ob p q e=>by
   have:=(Pv.mp e).1;exact sg _ _ p q (by omega) (xx _ _ e)) ⟨⟨fs,aE xi (by omega),f2,f3,f4,f5⟩,tu,⟨fp,(tp.keep λob e=>sg _ _ (by omega) (by omega) (by omega) e).more (Q9 _)⟩,⟨_,t4,nA⟩,u.hb⟩ t4 nA (by show(if th=th then _ else _)=_;rw[if_pos rfl])
theorem Tb.setdef(t:Tb h n c f)(hc:c<=1000)(x:Nm)(v:PV):(∀p,f x=some p->eY (.ref n) [pv x,v] h=.ok p h)/\(f x=none->∃o,eY (.ref n) [pv x,v] h=.ok v (h.set n o)/\Tb (h.set n o) n (c+1) (upN f x v)):=by
 obtain⟨E,a,b,d,e⟩:=t;obtain⟨o,ho,_⟩:=fY a;have q:eY (.ref n) [pv x,v] h=match aM (E.map (pF id)) (pv x) with|some p=>.ok p h|none=>.ok v (h.set n (.dD (fB (E.map (pF id)) (pv x) (id v)))):=Dx a rfl (by rw[PC];omega)
 rw[nI,e,IZ]at q;refine⟨λp hp=>?_,λhn=>?_⟩
 ·rw[hp]at q;exact q
 ·rw[hn]at q;refine⟨_,q,uS E x v,yW (bH ho),Qb (AG _ _ _) (by omega),Ct d,λy=>?_⟩;rw[AF,e];rfl
structure Fk(lu b:Nat)(h h':PH):Prop where
 lo:∀(i:Nat) o,i<b->i≠lu+1->i≠lu+2->i≠lu+3->h[i]?=some o->h'[i]?=some o
 fu:Fu b h h'
 ln:h.length<=h'.length
theorem NAt.snoc(na:NAt h b n N A)(e:A th=some a)(r:Nm×Int):NAt (h.set a (.lst ((N th++[r]).map rwN))) b (n+1) (upF N th (N th++[r])) A:=by
 refine⟨λx a' e'=>?_,λx e'=>?_,na.inj,λx=>?_⟩
 ·obtain⟨p,q⟩:=na.at' x a' e'
  show _/\_=some (MO.lst ((if x=th then _ else N x).map rwN))
  by_cases z:x=th
  ·subst z;rw[e]at e';cases e'
   rw[if_pos rfl];exact⟨p,bH q⟩
  ·rw[if_neg z];exact⟨p,aE q (λw=>z (na.inj x th a' e' (w▸e)))⟩
 ·show(if x=th then _ else N x)=[]
  by_cases z:x=th
  ·subst z;rw[e]at e';cases e'
  ·rw[if_neg z];exact na.no x e'
 ·show(if x=th then _ else N x).length<=n+1
  split
  ·rw[QU];have:=na.ln th;simp;omega
  ·exact Nat.le_succ_of_le (na.ln x)
theorem Ip{β:Type}(f:Nm->β)(x:Nm)(v w:β):upF (upF f x v) x w=upF f x w:=by
 funext y
 show(if y=x then w else if y=x then v else f y)=if y=x then w else f y
 split <;> rfl
theorem G9(u:UAt h lu b m n U N)(hn:m<=200/\n<=200){d:Dd}(ea:d.act=.make kd z)(k:∀h',Fk lu b h h'->UAt h' lu b (m+n) (n+2) U N->Q .non h'):(bF [.ref lu,dP d] h).W Q:=by
 refine bG ?_;unfold eD;rw[aD];have i0:atI (aN d.act) 0=some (.str "make"):=by rw[ea];exact aR (i:=0) rfl
 have hb:=u.hb;simp[dP];refine now ?_;obtain⟨f,t⟩:=u.pl;obtain⟨o,hp,t2⟩:=t.put (by omega) d.nm (pv d.nm);generalize aN d.act=A at i0;simp[i0,u.fp];refine⟨_,hp,k _ ⟨λi ob _ _ q _ e=>aE e (QS q),Fu.of λi ob hi e=>aE e (by omega),by rw[Qu];exact PD _⟩ ?_⟩;obtain⟨fs,f1,f2⟩:=u.ins;obtain⟨A1,t1,na⟩:=u.nu;exact⟨⟨fs,aE f1 (by omega),f2⟩,(u.un.keep λob e=>aE e (by omega)).more (by omega),⟨_,t2.more (by omega)⟩,⟨A1,(t1.keep λob e=>aE e (by omega)).more (by omega),λx a e=>let ⟨p,q⟩:=na.at' x a e;⟨p,aE q (by omega)⟩,na.no,na.inj,λx=>Qb (na.ln x) (by omega)⟩,u.hb⟩
theorem xK(hw:w="add" \/ w="put")(S:Seen)(v:Int)(r:Nm×Int):hits w S v r=false:=by
 unfold hits;rcases hw with rfl|rfl
 ·simp[hW.2.2.2.2.2.2.1,hW.2.2.2.2.2.2.2.2.1]
 ·simp[hW.2.2.1,hW.2.2.2.2.2.2.2.2.2.2.2]
set_option tactic.hygienic true in
theorem Iq(u:UAt h lu b m n U N)(hb:b<=h.length)(hn:m<=200/\n<=200){d:Dd}(ea:d.act=.num w th v)(hw:Bz w)(k:∀h',Fk lu b h h'->UAt h' lu b (m+n) (n+2) (pG (N th) (hits w d.seen v) U d.nm) (upF N th ((N th).filter (λr=>!hits w d.seen v r)++gK w d.nm v))->Q .non h'):(bF [.ref lu,dP d] h).W Q:=by
 refine bG ?_;unfold eD;rw[aD];have i0:atI (aN d.act) 0=some (.str w):=by rw[ea];exact aR (i:=0) rfl
 have i1:atI (aN d.act) 1=some (pv th):=by rw[ea];exact aR (i:=1) rfl
 have i2:atI (aN d.act) 2=some (.int v):=by rw[ea];exact aR (i:=2) rfl
 have pf:=u.hb;have hM:¬ w="make" := λz=>(nK hw).1 (.inl z);have hV:¬ (w="move" \/ w="drop"):=λz=>(nK hw).1 (.inr z);simp;refine⟨[some (.ref lu),some (dP d),some (pv d.nm),some (sv d.seen),some (.tup (aN d.act))],by simp[dP],?_⟩;obtain⟨fs,f1,f2,f3,f4,f5,f6⟩:=u.ins;have mu:=λsb=>cB (mm:="undo_numbers") (n:=2) (tb:=cZ) (ms:=aA (mV 1) (aA (mC (.bl sb)) aC)) (δ:=[some (.ref lu),some (dP d),some (pv d.nm),some (sv d.seen),some (.tup (aN d.act))]) (h:=h) (h1:=h) (mo:=mV 0) (k:=lu) (f:=bB) (by simp) f1 (by simp[cZ]) f6;generalize aN d.act=A at i0 i1 i2 mu;refine now ?_;rw[bE];simp[i0,hM];rw[Ca rfl rfl];simp at hV;simp[hV];have same:w="add" \/ w="put" -> pG (N th) (hits w d.seen v) U d.nm=U/\(N th).filter (λr=>!hits w d.seen v r)=N th:=λhw=>by
  constructor
  ·funext x
   unfold pG;rw[if_neg];rw[List.any_eq_true];rintro⟨r,_,hr⟩;rw[xK hw]at hr;simp at hr
  ·rw[List.filter_eq_self];intro r _;rw[xK hw];rfl
 obtain⟨w1,w2,w3,w4,w5,w6,w7,w8,w9,w10,w11,w12⟩:=hW;have wr:¬ (Pz "add")=Pz "write" /\ ¬ (Pz "add")=Pz "cut" := by constructor <;> decide +kernel
 rcases hw with rfl|rfl|rfl|rfl
 ·-- add
  obtain⟨s1,s2⟩:=same (.inl rfl);have s3:upF N th ((N th).filter (λr=>!hits "add" d.seen v r)++gK "add" d.nm v)=N:=by
   rw[s2];have:gK "add" d.nm v=[]:=by unfold gK;rw[if_neg λz=>z.elim w7 w8]
   rw[this,Ru]
   funext y
   show(if y=th then N th else N y)=N y
   split
   ·rename_i z;rw[z]
   ·rfl
  rw[s1,s3]at k;simp[w7,w8,w9,wr];exact k _ ⟨λ_ _ _ _ _ _ e=>e,Fu.of λ_ _ _ e=>e,PD _⟩ (u.more (by omega) (by omega))
 ·-- choose
  simp[aD,mu];refine Cy u hb hn ea false λh1 A1 fr u1 t1 cb eA=>?_;rw[<-AJ]at u1 cb;refine now ?_;obtain⟨p,q⟩:=cb.at' th _ eA;have ev:vAt (.ref (lu+3)) (pv th) h1=.ok (.ref h.length) h1:=t1.at' (by rw[eA];rfl);have eN:upF N th ((N th).filter λr=>!hits "choose" d.seen v r) th=(N th).filter λr=>!hits "choose" d.seen v r:=if_pos rfl;rw[eN]at q;have lf:((N th).filter λr=>!hits "choose" d.seen v r).length<=n+1:=by have:=cb.ln th;rw[eN]at this;exact this
  have ap:=dH (p:=rwN (d.nm,v)) q (by rw[PC];omega);rw[show((N th).filter λr=>!hits "choose" d.seen v r).map rwN++[rwN (d.nm,v)]=(((N th).filter λr=>!hits "choose" d.seen v r)++[(d.nm,v)]).map rwN by simp]at ap;have iw:onL bA (.ref h.length) [.tup [pv d.nm,.int v]] h1=_:=ap;simp[u1.fn,i1,ev,iV q,i2];rw[iw,rV];have fq:=cb.snoc eA (d.nm,v);rw[eN,Ip]at fq;have lh:=(Pv.mp q).1;have ad:gK "choose" d.nm v=[(d.nm,v)]:=by unfold gK;rw[if_pos (.inl rfl)]
  rw[ad]at k;have kp:∀(i:Nat) o,i≠lu+1->i≠lu+3->h[i]?=some o->(h1.set h.length (.lst (((N th).filter (λr=>!hits "choose" d.seen v r)++[(d.nm,v)]).map rwN)))[i]?=some o:=λi o a b e=>aE (fr i o a b e) (by have:=(Pv.mp e).1;omega);obtain⟨ng,g1,g2⟩:=u1.ins;refine k _ ⟨λi o _ a _ b e=>kp i o a b e,Fu.of λi o hi e=>kp i o (by omega) (by omega) e,by rw[Qu];omega⟩ ⟨⟨ng,aE g1 (by omega),g2⟩,u1.un.keep λo e=>aE e (by omega),let ⟨f,t⟩:=u1.pl;⟨f,(t.keep λo e=>aE e (by omega)).more (by omega)⟩,⟨A1,(t1.keep λo e=>aE e (by omega)).more (by omega),fq⟩,u.hb⟩
 ·-- put
  obtain⟨s1,s2⟩:=same (.inr rfl);have ad:gK "put" d.nm v=[(d.nm,v)]:=by unfold gK;rw[if_pos (.inr rfl)]
  rw[s1,s2,ad]at k;obtain⟨A1,t1,cb⟩:=u.nu;have rj:bO (.ref (lu+3)) h=true:=t1.dict;have x1:Ext h (h++[MO.lst []]):=Ext.app _ _;obtain⟨xk,vj⟩:=(t1.ext x1).setdef (by omega) th (.ref h.length);have gl:(h++[MO.lst []])[h.length]?=some (.lst []):=aF;have u1:UAt (h++[MO.lst []]) lu b m n U N:=u.keep (λi o _ _ e=>x1 _ _ e) λi xs e=>x1 _ _ e;have wx:=t1.ext x1;have ib:NAt (h++[MO.lst []]) b n N A1:=cb.keep λi xs _ e=>x1 _ _ e;have lx:(h++[MO.lst []]).length=h.length+1:=by simp
  simp[w2,w3,u.fn,rj,i1];generalize h++[MO.lst []]=h1 at x1 xk vj gl u1 wx ib lx;cases eA:A1 th with
  |some a=>
   have e:=xk (.ref a) (by rw[eA];rfl);obtain⟨p,q⟩:=ib.at' th a eA;have ap:=dH (p:=rwN (d.nm,v)) q (by rw[PC];have:=ib.ln th;omega);rw[show(N th).map rwN++[rwN (d.nm,v)]=(N th++[(d.nm,v)]).map rwN by simp]at ap;have iw:onL bA (.ref a) [.tup [pv d.nm,.int v]] h1=_:=ap;simp[e,iV q,i2];rw[iw,rV];have fq:=ib.snoc eA (d.nm,v);obtain⟨ng,g1,g2⟩:=u1.ins;refine k _ ⟨λi o hi _ _ _ e=>aE (x1 _ _ e) (by omega),⟨λi cn fs _ e=>aE (x1 _ _ e) (λz=>by subst z;have:=x1 _ _ e;rw[q]at this;cases this),λi R hi e9=>?_⟩,by rw[Qu];omega⟩ ⟨⟨ng,aE g1 (by omega),g2⟩,(u1.un.keep λo e=>aE e (by omega)).more (by omega),let ⟨f,t⟩:=u1.pl;⟨f,(t.keep λo e=>aE e (by omega)).more (by omega)⟩,⟨A1,(wx.keep λo e=>aE e (by omega)).more (by omega),fq.at',fq.no,fq.inj,λx=>Qb (fq.ln x) (by omega)⟩,u.hb⟩
   by_cases z:i=a
   ·subst z;have:=x1 _ _ e9;rw[q]at this;have:=congrArg Te (MO.lst.inj (P4 this));simp at this;exact⟨_,bH q,by rw[QU];simp;omega⟩
   ·exact⟨R,aE (x1 _ _ e9) (QS z),Q9 _⟩
  |none=>
   obtain⟨o,e,t2⟩:=vj (by rw[eA];rfl);have eU:upN (λx=>(A1 x).map PV.ref) th (.ref h.length)=λx=>(upF A1 th (some h.length) x).map .ref:=by
    funext x
    show(if x=th then some _ else(A1 x).map _)=(if x=th then some _ else A1 x).map _
    split <;> rfl
   rw[eU]at t2;have q:(h1.set (lu+3) o)[h.length]?=some (.lst []):=aE gl (by omega);have ap:=dH (p:=rwN (d.nm,v)) q (by simp);have iw:onL bA (.ref h.length) [.tup [pv d.nm,.int v]] (h1.set (lu+3) o)=_:=ap;have n0:=cb.no th eA;have j9:∀x a,A1 x=some a->a<h.length:=λx a e=>(Pv.mp (cb.at' x a e).2).1;have nN:NAt (h1.set (lu+3) o) b n N (upF A1 th (some h.length)):=by
    refine⟨λx a e=>?_,λx e=>?_,λx y a e1 e2=>?_,cb.ln⟩
    ·have e:(if x=th then some h.length else A1 x)=some a:=e
     by_cases z:x=th
     ·rw[if_pos z]at e;cases e;rw[z,n0];exact⟨hb,q⟩
     ·rw[if_neg z]at e;obtain⟨p,q⟩:=ib.at' x a e;exact⟨p,aE q (by omega)⟩
    ·have e:(if x=th then some h.length else A1 x)=none:=e
     by_cases z:x=th
     ·rw[if_pos z]at e;cases e
     ·rw[if_neg z]at e;exact cb.no x e
    ·have e1:(if x=th then some h.length else A1 x)=some a:=e1;have e2:(if y=th then some h.length else A1 y)=some a:=e2
     by_cases z1:x=th <;> by_cases z2:y=th
     ·rw[z1,z2]
     ·rw[if_pos z1]at e1;rw[if_neg z2]at e2;cases e1;have:=j9 y _ e2;omega
     ·rw[if_neg z1]at e1;rw[if_pos z2]at e2;cases e2;have:=j9 x _ e1;omega
     ·rw[if_neg z1]at e1;rw[if_neg z2]at e2;exact cb.inj x y a e1 e2
   simp[e,iV q,i2];rw[iw,rV];have fq:=nN.snoc (th:=th) (a:=h.length) (if_pos rfl) (d.nm,v);rw[n0,List.nil_append]at fq k;obtain⟨ng,g1,g2⟩:=u1.ins;have kp:∀(i:Nat) ob,i≠lu+3->h[i]?=some ob->((h1.set (lu+3) o).set h.length (.lst ([]++[rwN (d.nm,v)])))[i]?=some ob:=λi ob a e=>aE (aE (x1 _ _ e) (QS a)) (by have:=(Pv.mp e).1;omega);refine k _ ⟨λi ob _ _ _ a e=>kp i ob a e,Fu.of λi ob hi e=>kp i ob (by omega) e,by rw[Qu,Qu];omega⟩ ⟨⟨ng,aE (aE g1 (by omega)) (by omega),g2⟩,(u1.un.keep λob e=>aE (aE e (by omega)) (by omega)).more (by omega),let ⟨f,t⟩:=u1.pl;⟨f,(t.keep λob e=>aE (aE e (by omega)) (by omega)).more (by omega)⟩,⟨_,(t2.keep λob e=>aE e (by omega)).more (by omega),fq.at',fq.no,fq.inj,λx=>Qb (fq.ln x) (by omega)⟩,u.hb⟩
 ·-- take
  simp[w4,w5,w6,mu];refine Cy u hb hn ea true λh1 A1 fr u1 t1 cb eA=>?_;rw[<-DN]at u1 cb;have ad:gK "take" d.nm v=[]:=by unfold gK;rw[if_neg λz=>z.elim w5 w6]
  rw[ad,Ru]at k;have lh:=(Pv.mp (cb.at' th _ eA).2).1;exact k _ ⟨λi o _ a _ b e=>fr i o a b e,Fu.of λi o hi e=>fr i o (by omega) (by omega) e,by omega⟩ (u1.more (PD _) (by omega))
unseal Fl.W in
theorem KM{b:Bool}{m:Me}{x:PV}{d:Nat}(I:Nat->Ev->PH->Prop)(e:m δ h=.ok x h1)(ew:wkI b x h1=some (d,o,xs))(hd:uF h[d]?=true)(h0:I 0 δ (h1.set d (.fz o)))(keep:∀q δ h,I q δ h->h[d]?=some (.fz o))(step:∀(q:Nat) y δ h,xs[q]?=some y->I q δ h->∃δ1,tg y δ=some δ1/\(body δ1 h).W { nx:=I (q+1),ct:=I (q+1),rt:=λ_ _=>False,bk:=λ_ _=>False })(fin:∀δ h,I xs.length δ h->E.nx δ (h.set d o)):(qE b m (cT (uG b m) tg body) δ h).W E:=by
 have go:(eI (λ_=>true) tg body xs δ (h1.set d (.fz o))).W { nx:=λδ h=>I xs.length δ h,rt:=λ_ _=>False,bk:=λ_ _=>False,ct:=λ_ _=>False }:=pY I _ 0 δ _ h0 (λq y δ h _ hx hi=>⟨rfl,by
  obtain⟨δ1,t1,w1⟩:=step q y δ h (by simpa using hx) hi
  refine⟨δ1,t1,?_⟩;cases eb:body δ1 h with
  |nx δ2 h2=>rw[eb]at w1;exact w1
  |ct δ2 h2=>rw[eb]at w1;exact w1
  |bk δ2 h2=>rw[eb]at w1;exact w1.elim
  |rt p h2=>rw[eb]at w1;exact w1
  |exc=>rw[eb]at w1;exact w1
  |bad=>rw[eb]at w1;exact w1⟩) (λδ h hi=>⟨rfl,by simpa using hi⟩)
 unfold qE;rw[KH e ew hd];dsimp only;unfold cT;rw[FA e ew,Rs.fl_ok];cases el:eI (λ_=>true) tg body xs δ (h1.set d (.fz o)) with
 |nx δ2 h2=>
  rw[el]at go;have g:I xs.length δ2 h2:=go;have g2:=keep _ _ _ g;simp only[lW,kN,g2];exact fin δ2 h2 g
 |ct δ2 h2=>rw[el]at go;exact go.elim
 |bk δ2 h2=>rw[el]at go;exact go.elim
 |rt p h2=>rw[el]at go;exact go.elim
 |exc=>rw[el]at go;exact go.elim
 |bad=>rw[el]at go;exact go.elim
structure Bd(a0 l lt lm ll lu lF:Nat):Prop where
 lo:a0<=lm/\a0<=ll/\a0<=lu
 hi:l<lu/\lt<lu/\lm<lu/\ll<lu
 lF:lu+3<lF
def idV:PV:=.tup [.str "idle"]
structure PL(h:PH)(l lt lm lf ll lu lF:Nat)(os:List Dd)(q:Nat)(h':PH):Prop where
 x:Ext h h'
 fs:FS h' l lt lm lf ll (lF+1) (2*q) (os.take q)
 un:UAt h' lu (lF+1) q (2*q) (fG os q).U (fG os q).N
 fd:∃F,Tb h' lF q F/\(∀i d,i<q->os[i]?=some d->F d.nm=if idD (os.take i) d=true then some idV else none)/\∀x,x∉(os.take q).map (·.nm)->F x=none
theorem FS.und{lt:Nat}(f:FS h l lt lm lf ll b n P)(k:∀(i:Nat) o,i=l\/i=lt\/i=lm\/i=ll->h[i]?=some o->h'[i]?=some o)(fu:Fu b h h')(hl:h.length<=h'.length):FS h' l lt lm lf ll b (n+1) P:=
 ⟨k _ _ (.inl rfl) f.fo,k _ _ (.inr (.inl rfl)) f.ti,let ⟨a,t,c⟩:=f.md;⟨a,(t.keep λo e=>k _ _ (.inr (.inr (.inl rfl))) e).more (Q9 _),c⟩,let ⟨a,t,c⟩:=f.lv;⟨a,(t.keep λo e=>k _ _ (.inr (.inr (.inr rfl))) e).more (Q9 _),λx=>(c x).imp id λ⟨kd,c,p,q,r⟩=>⟨kd,c,p,q,r.und fu⟩⟩,f.ne,f.hi,Qb f.bl hl⟩
theorem nUs:¬ (Pz "Undoing")=Pz "Count" /\ ¬ (Pz "Undoing")=Pz "Choice" /\ ¬ (Pz "Undoing")=Pz "Bag" /\ ¬ (Pz "Undoing")=Pz "Tree" /\ ¬ (Pz "Undoing")=Pz "Folding" := by refine⟨?_,?_,?_,?_,?_⟩ <;> decide +kernel
theorem nFs:¬ (Pz "Folding")=Pz "Count" /\ ¬ (Pz "Folding")=Pz "Choice" /\ ¬ (Pz "Folding")=Pz "Bag" /\ ¬ (Pz "Folding")=Pz "Tree" := by refine⟨?_,?_,?_,?_⟩ <;> decide +kernel
theorem tbF:dW "Folding" = some cM:=by
 obtain⟨a,b,c,d⟩:=nFs;simp[dW,a,b,c,d]
theorem tbU:dW "Undoing" = some bF:=by
 obtain⟨a,b,c,d,e⟩:=nUs;simp[dW,a,b,c,d,e]
theorem DO{q:Nat}{d:Dd}(e:os[q]?=some d):fG os (q+1)=gst (os.take q) (fG os q) d:=by
 show(match os[q]? with|some d=>gst (os.take q) (fG os q) d|none=>fG os q)=_
 rw[e]
variable{x5 x8 x9:Option PV}
theorem Ir(nd:(os.map (·.nm)).Nodup)(wf:∀d∈os,Wf d)(ln:os.length<=50){lt lF:Nat}(B:Bd h.length l lt lm ll lu lF){q:Nat}(p:PL h l lt lm lf ll lu lF os q h'){d:Dd}(hd:os[q]?=some d){x6 x7:Option PV}(k:∀x8 h2,PL h l lt lm lf ll lu lF os (q+1) h2->E.nx [some (.ref n),some (.ref l),some (.ref lu),some (.ref lF),some (dP d),some (pv d.nm),some (sv d.seen),some (.tup (aN d.act)),some x8,x9] h2):(bY [some (.ref n),some (.ref l),some (.ref lu),some (.ref lF),some (dP d),x5,x6,x7,x8,x9] h').W E:=by
 obtain⟨x,fs,u,F,tF,eF,oF⟩:=p;obtain⟨lo,hi,hF⟩:=B;have hq:q<os.length:=(Pv.mp hd).1;obtain⟨tk,hn⟩:=FV nd hd;have D:=wf d (Qp hd);have L1:=BC nd (q+1) (by omega);unfold bY;rw[aD];simp;refine⟨[some (.ref n),some (.ref l),some (.ref lu),some (.ref lF),some (dP d),some (pv d.nm),some (sv d.seen),some (.tup (aN d.act)),x8,x9],by simp[dP],?_⟩;refine now ?_;rw[aD];have mh:=cB (mm:="hear") (n:=1) (tb:=dW) (ms:=aA (mV 4) aC) (δ:=[some (.ref n),some (.ref l),some (.ref lu),some (.ref lF),some (dP d),some (pv d.nm),some (sv d.seen),some (.tup (aN d.act)),x8,x9]) (h:=h') (h1:=h') (mo:=mV 1) (k:=l) (f:=cM) (by simp) fs.fo tbF rfl;simp[mh];refine G3 fs (by omega) D (λe he=>(wf e (SQ he)).rt) hn λh1 k1 f1=>?_;rw[<-tk]at f1;refine now ?_;rw[bE];have x1:Ext h h1:=λi o e=>have hh:=(Pv.mp e).1;k1.lo i o (by omega) (by omega) (by omega) (x i o e);have u1:UAt h1 lu (lF+1) q (2*q) (fG os q).U (fG os q).N:=u.keep (λi o a b e=>k1.lo i o (by omega) (by omega) (by omega) e) k1.ls;have t1:Tb h1 lF q F:=tF.keep λo e=>k1.lo _ o (by omega) (by omega) (by omega) e;have bl:=f1.bl
 -- a name more is found,or none
 have fd:∀(h2:PH)(F':Nm->Option PV),Tb h2 lF (q+1) F'->(F'=if idD (os.take q) d=true then upN F d.nm idV else F)->∃F,Tb h2 lF (q+1) F/\(∀i e,i<q+1->os[i]?=some e->F e.nm=if idD (os.take i) e=true then some idV else none)/\∀x,x∉(os.take (q+1)).map (·.nm)->F x=none:=λh2 F' t' e'=>by
  refine⟨F',t',λi e hi he=>?_,λy hy=>?_⟩
  ·rcases SF i q with z|z
   ·have ne:¬ e.nm=d.nm:=λw=>by have:=(nJ nd he hd w).1;omega
    have:F' e.nm=F e.nm:=by
     rw[e'];split
     ·show(if e.nm=d.nm then _ else F e.nm)=_
      rw[if_neg ne]
     ·rfl
    rw[this];exact eF i e z he
   ·have:i=q:=by omega
    subst this;rw[hd]at he;cases he
    rw[e'];split
    ·show(if d.nm=d.nm then _ else _)=_
     rw[if_pos rfl]
    ·exact oF _ hn
  ·rw[tk,Qq,Ql,not_or]at hy;rw[e'];split
   ·show(if y=d.nm then _ else F y)=_
    rw[if_neg (λz=>hy.2 (by simp[z]))];exact oF y hy.1
   ·exact oF y hy.1
 have gs:=DO hd;cases ei:idD (os.take q) d with
 |true=>
  have e1:kW (os.take q) d="idle" := by unfold kW;rw[ei];rfl
  rw[e1];have n1:¬ (Pz "idle")=Pz "lost" := by decide +kernel
  obtain⟨o,hp,t2⟩:=t1.put (by omega) d.nm idV;have i6:gG (.ref lF) (pv d.nm) (.tup [.str "idle"]) h1=some (h1.set lF o):=hp;have g1:fG os (q+1)=fG os q:=by
   rw[gs];unfold gst;cases ea:d.act with
   |make kd z=>rfl
   |num w th v=>simp only[ei,if_true]
  have kp:∀(i:Nat) ob,i≠lF->h1[i]?=some ob->(h1.set lF o)[i]?=some ob:=λi ob a e=>aE e (QS a);simp[n1,i6];refine k _ _ ⟨x1.setN (by omega),f1.und (λi ob a e=>kp _ _ (by omega) e) (Fu.of λi ob a e=>kp _ _ (by omega) e) (by rw[Qu];exact PD _),?_,fd _ _ t2 (by rw[ei,if_pos rfl])⟩;rw[g1];exact(u1.keep (λi ob a b e=>kp _ _ (by omega) e) λi xs e=>kp _ _ (QS (QS (t1.ne_lst e))) e).more (by omega) (by omega)
 |false=>
  have e1:kW (os.take q) d="done" := by unfold kW;rw[ei];rfl
  rw[e1];have n1:¬ (Pz "done")=Pz "lost" := by decide +kernel
  have n2:¬ (Pz "done")=Pz "idle" := by decide +kernel
  obtain⟨fsl,i1,i2,i3,i4,i5,_⟩:=u1.ins;have mu:=cB (mm:="hear") (n:=1) (tb:=dW) (ms:=aA (mV 4) aC) (δ:=[some (.ref n),some (.ref l),some (.ref lu),some (.ref lF),some (dP d),some (pv d.nm),some (sv d.seen),some (.tup (aN d.act)),some (.str "done"),x9]) (h:=h1) (h1:=h1) (mo:=mV 2) (k:=lu) (f:=bF) (by simp) i1 tbU i5;simp[n1,n2,mu];have fin:∀h2,Fk lu (lF+1) h1 h2->UAt h2 lu (lF+1) (q+2*q) (2*q+2) (fG os (q+1)).U (fG os (q+1)).N->E.nx [some (.ref n),some (.ref l),some (.ref lu),some (.ref lF),some (dP d),some (pv d.nm),some (sv d.seen),some (.tup (aN d.act)),some (.str "done"),x9] h2:=λh2 k2 u2=>by
   refine k _ _ ⟨λi o e=>have hh:=(Pv.mp e).1;k2.lo i o (by omega) (by omega) (by omega) (by omega) (x1 _ _ e),f1.und (λi o a e=>k2.lo i o (by omega) (by omega) (by omega) (by omega) e) k2.fu k2.ln,?_,fd _ F ((t1.keep λo e=>k2.lo _ o (by omega) (by omega) (by omega) (by omega) e).more (by omega)) (by rw[ei,if_neg PY])⟩;have:=u2.dom ((os.take (q+1)).map (·.nm)) L1.x;rw[PC,QK,Tc (by omega)]at this;exact this
  cases ea:d.act with
  |make kd z=>
   have g1:fG os (q+1)=fG os q:=by rw[gs];unfold gst;rw[ea]
   rw[g1]at fin;rw[ea]at fin;exact G9 u1 (by omega) ea fin
  |num w th v=>
   have hw:=D.act;rw[ea]at hw;have g1:fG os (q+1)=⟨upF (fG os q).N th (((fG os q).N th).filter (λr=>!hits w d.seen v r)++gK w d.nm v),pG ((fG os q).N th) (hits w d.seen v) (fG os q).U d.nm⟩:=by
    rw[gs];unfold gst;rw[ea];simp only[ei,Qh,if_false];rfl
   rw[g1,ea]at fin;exact Iq u1 bl (by omega) ea hw fin
def BD(v:PV):PV:=.tup [.str "outdone",v]
def laid(E:List (Nm×PV))(F:Nm->Option PV)(x:Nm):Option PV:=match fnd E x with
 |some v=>some (BD v)
 |none=>F x
variable{F:Nm->Option PV}{e:Nm×PV}
theorem DP{E:List (Nm×PV)}(h:e.1∉E.map (·.1)):laid (E++[e]) F=upN (laid E F) e.1 (BD e.2):=by
 funext x
 show(match fnd (E++[e]) x with|some v=>some (BD v)|none=>F x)=if x=e.1 then some (BD e.2) else match fnd E x with|some v=>some (BD v)|none=>F x
 rw[Cs]
 by_cases z:x=e.1
 ·have:fnd E x=none:=by
   cases e2:fnd E x with
   |none=>rfl
   |some v=>exact(h (z▸sH.mp (by rw[e2];rfl))).elim
  rw[if_pos z,this,pE,if_pos z.symm];rfl
 ·rw[if_neg z,pE,if_neg (λw=>z w.symm)];cases fnd E x <;> rfl
set_option tactic.hygienic true in
theorem BE(e:bI h n=some kvs):∃o,h[n]?=some o/\uF (some o)=true/\mR o=some (kvs.map λkv=>.tup [kv.1,kv.2]):=by
 unfold bI at e;split at e
 ·rename_i k hk;cases e;exact⟨_,hk,rfl,rfl⟩
 ·rename_i hk;cases e;exact⟨_,hk,rfl,rfl⟩
 ·cases e
def iL(os:List Dd)(i:Nat)(d:Dd):PV:=if idD (os.take i) d=true then idV else match jN os i os.length d with
 |some y=>BD (pv y.nm)
 |none=>.tup [.str "stands"]
theorem N8(nd:(os.map (·.nm)).Nodup)(wf:∀d∈os,Wf d)(ln:os.length<=50)(g:h[n]?=some (.lst (os.map dP)))(k:∀lF c F h',Ext h h'->Tb h' lF c F->(∀i d,os[i]?=some d->(F d.nm).getD (.tup [.str "stands"])=iL os i d)->Q (.ref lF) h'):(eT [.ref n] h).W Q:=by
 refine bG ?_;unfold eS;rw[aD];have e0:=G7 h;have xE:Ext h (h++[MO.lst []]++[MO.lst []]):=(Ext.app _ _).trans (Ext.app _ _);have ga:(h++[MO.lst []]++[MO.lst []])[h.length]?=some (.lst []):=Ext.app _ _ _ _ aF;have gb:(h++[MO.lst []]++[MO.lst []])[h.length+1]?=some (.lst []):=by
  have:h.length+1=(h++[MO.lst []]).length:=by simp
  rw[this];exact aF
 generalize h++[MO.lst []]++[MO.lst []]=hE at e0 xE ga gb;rw[C6];refine uV (ps:=[.tup [.ref h.length,.ref (h.length+1)]]) (h1:=hE) (by simp[e0]) rfl ?_;refine G6 (h0:=hE) (Ext.app _ _) aF (Ext.app _ _ _ _ ga) (Ext.app _ _ _ _ gb) λlt lm lf ll h1 x1 b1 b3 f1=>⟨rfl,now ?_⟩;rw[aD,C6];have lE:=xE.len;obtain⟨m1,m2,m3,m4⟩:=f1.hi;have l1:=x1.len;refine G8 λh2 x2 l2 u2=>now ?_;rw[aD];simp;have x3:Ext h2 (h2++[MO.dK []]):=Ext.app _ _;have t3:Tb (h2++[MO.dK []]) h2.length 0 (λ_=>none):=Tb.nil aF;have B:Bd h.length hE.length lt lm ll h1.length h2.length:=⟨by omega,⟨m1,m2,m3,m4⟩,by omega⟩;have p0:PL h hE.length lt lm lf ll h1.length h2.length os 0 (h2++[MO.dK []]):=⟨xE.trans (x1.trans (x2.trans x3)),f1.base (x2.trans x3) (by omega) (by simp),(u2 (h2.length+1) (by omega)).keep (λi o _ _ e=>x3 _ _ e) λi xs e=>x3 _ _ e,_,t3,(λi d hi=>absurd hi (Ta _)),λ_ _=>rfl⟩;generalize h2.length=lF at t3 B p0;generalize h2++[MO.dK []]=h3 at t3 p0 x3;generalize h1.length=lu at B p0;generalize hE.length=l at B p0;clear u2 l2 x3 t3 x2 m1 m2 m3 m4 f1 x1;refine now ?_;rw[aD];refine iW (n:=n) (xs:=os.map dP) (h1:=h3) (λq δ h'=>PL h l lt lm lf ll lu lF os q h'/\∃x4 x5 x6 x7 x8 x9,δ=[some (.ref n),some (.ref l),some (.ref lu),some (.ref lF),x4,x5,x6,x7,x8,x9]) (by simp) (p0.x _ _ g) ⟨p0,_,_,_,_,_,_,rfl⟩ (λq δ h' _ i=>i.1.x _ _ g) ?_ ?_
 ·rintro q y δ h' hy ⟨p,x4,x5,x6,x7,x8,x9,rfl⟩;rw[PQ]at hy;obtain⟨d,hd,rfl⟩:=Qa.mp hy;exact⟨_,rfl,Ir nd wf ln B p hd λx8 h2 p2=>⟨p2,_,_,_,_,_,_,rfl⟩⟩
 ·rintro δ h' ⟨p,x4,x5,x6,x7,x8,x9,rfl⟩;rw[PC]at p;obtain⟨x,fs,u,F,tF,eF,oF⟩:=p;have L1:=BC nd os.length (PD _);obtain⟨lo,hi,hF⟩:=B;refine now ?_;rw[aD];obtain⟨E,tE,lE,va,eE⟩:=u.un;obtain⟨o,ho,hd,hit⟩:=BE tE;have e0:An bO gX (mUn (bL "undone") (mV 2)) [some (.ref n),some (.ref l),some (.ref lu),some (.ref lF),x4,x5,x6,x7,x8,x9] h'=.ok (.ref h'.length) (h'++[.vw 0 (lu+1)]):=by
   simp[u.fu,u.un.dict,Bs ho hd]
  have y1:Ext h' (h'++[MO.vw 0 (lu+1)]):=Ext.app _ _;have e8:=y1 _ _ ho;have wk:=Fy aF e8 hit;have t1:=tF.ext y1;have xx:=x.trans y1;rw[Qw]at wk;generalize h'.length=lv at e0 wk;generalize h'++[MO.vw 0 (lu+1)]=h1 at e0 wk y1 e8 t1 xx;refine KM (d:=lu+1) (o:=o) (xs:=E.map λe=>.tup [pv e.1,e.2]) (h1:=h1) (λq δ h2=>(∀(i:Nat) o,i≠lF->i≠lu+1->h1[i]?=some o->h2[i]?=some o)/\h2[lu+1]?=some (.fz o)/\Tb h2 lF (os.length+q) (laid (E.take q) F)/\∃x5 x9,δ=[some (.ref n),some (.ref l),some (.ref lu),some (.ref lF),x4,x5,x6,x7,x8,x9]) e0 wk (by rw[ho];exact hd) ⟨λi o _ a e=>aE e (QS a),bH e8,t1.keep λo e=>aE e (by omega),_,_,rfl⟩ (λq δ h i=>i.2.1) ?_ ?_
  ·rintro q y δ h2 hy ⟨fr,gz,tq,x5,x9,rfl⟩;rw[PQ]at hy;obtain⟨e,he,rfl⟩:=Qa.mp hy;have hq:q<E.length:=(Pv.mp he).1;have e1:E.take (q+1)=E.take q++[e]:=by rw[QP,he];rfl
   have nE:e.1∉(E.take q).map (·.1):=λz=>by
    rw[<-RA (q+1) E,e1,Qq,Qq,QM,QM]at va;exact va.1.2.2 e.1 z e.1 (by simp) rfl
   refine⟨_,by simp;rfl,?_⟩;unfold dR;obtain⟨ob,hp,t2⟩:=tq.put (by omega) e.1 (BD e.2);rw[<-DP nE,<-e1]at t2;have i6:gG (.ref lF) (pv e.1) (.tup [.str "outdone",e.2]) h2=some (h2.set lF ob):=hp;simp[i6];exact⟨λi o a b e=>aE (fr i o a b e) (QS a),aE gz (by omega),t2⟩
  ·rintro δ h2 ⟨fr,gz,tq,x5,x9,rfl⟩;rw[PC,RF]at tq;refine now ?_;simp;have kk:∀(i:Nat) ob,i≠lF->h1[i]?=some ob->(h2.set (lu+1) o)[i]?=some ob:=λi ob a e=>by
    by_cases z:i=lu+1
    ·subst z;rw[e8]at e;cases e
     exact bH gz
    ·exact aE (fr i ob a z e) (QS z)
   refine k lF _ _ _ (λi o e=>have hh:=(Pv.mp e).1;kk _ _ (by omega) (xx _ _ e)) (tq.keep λo e=>aE e (by omega)) λi d hd=>?_;have hi:=(Pv.mp hd).1;have eU:=L1.u i d hi hd;have e2:=eF i d hi hd;unfold laid iL;rw[eE];simp only[eU];cases ei:idD (os.take i) d with
   |true=>rw[ei]at e2;simp[e2]
   |false=>
    rw[ei]at e2;cases jN os i os.length d with
    |none=>simp[e2]
    |some y=>simp
theorem AK{ds:List Dd}(D:Dl os ds)(g:h[n]?=some (.lst (ds.map dP)))(k:∀l vs h',Ext h h'->h'[l]?=some (.lst vs)->vs.length=os.length->(∀(i:Nat) d,os[i]?=some d->vs[i]?=some (.tup [pv d.nm,iL os i d]))->Q (.ref l) h'):(pD [.ref n] h).W Q:=by
 refine bG ?_;unfold zL;rw[aD];simp;refine FP D g λl1 h1 x1 g1=>?_;refine N8 D.nd D.wf D.ln g1 λlF c F h2 x2 t2 ft=>?_;refine now ?_;rw[aD];have gn:=(x1.trans x2) _ _ g;obtain⟨v,h3,e3,l3,rfl,x3,g3⟩:=jV (FQ D gn (Q:=λv h3=>∃l3,v=.ref l3/\Ext h2 h3/\h3[l3]?=some (.lst [])) λl3 h3 a b=>⟨l3,rfl,a,b⟩);refine zN (n:=l3) (h1:=h3) (by simp[e3]) g3 (now ?_);obtain⟨v,h4,e4,l4,rfl,x4,g4⟩:=jV (BA D (x3 _ _ gn) (Q:=λv h4=>∃l4,v=.ref l4/\Ext h3 h4/\h4[l4]?=some (.lst (os.map dP))) λl3 h3 a b c=>⟨l3,rfl,a,c⟩);have t4:=t2.ext (x3.trans x4);have hc:=fW (js:=[none,some 1]) (tg:=gN 0) (tst:=mI) (elt:=bK (aA (aB vAt (mV 0) (mC (.int 0))) (aA (mMt bO kJ (mV 1) (aA (aB vAt (mV 0) (mC (.int 0))) (aA (bK (aA (mC (.str "stands")) aC)) aC))) aC))) (m:=aL 1 dS (aA (mV 0) aC)) (δ:=[some (.ref n),some (.ref lF),none,none]) (h:=h3) (h1:=h4) (n:=l4) (ys:=os) (emb:=dP) (λd=>some (.tup [pv d.nm,(F d.nm).getD (.tup [.str "stands"])])) (by simp[e4]) g4 (by have:=D.ln;omega)
  (λd hd=>⟨_,rfl,λh5 hx=>⟨rfl,by simp[fQ,dP0,(t4.ext hx).dict,(t4.ext hx).get]⟩⟩)
 rw[filterMap_some]at hc;simp[hc];refine k _ _ _ (x1.trans (x2.trans (x3.trans (x4.trans (Ext.app _ _))))) aF (by simp) λi d hi=>?_;rw[PQ,hi,<-ft i d hi];rfl
variable{elt:Me}{js:List (Option Nat)}{mi:Mi}
theorem Iu{g:PH->Bool}(P:Nat->PV->Prop)(e:mi δ h=.ok ⟨xs,g⟩ h1)(hg:∀h,Ext h1 h->g h=true)(hz:xs.length<=16777216)(step:∀i x,xs[i]?=some x->∃δ1,tg x (fQ js δ)=some δ1/\∀h,Ext h1 h->∀Q:PV->PH->Prop,(∀v h',Ext h h'->P i v->Q v h')->(elt δ1 h).W Q)(k:∀l h'(vs:List PV),Ext h1 h'->h1.length<=l->vs.length=xs.length->h'[l]?=some (.lst vs)->(∀i v,vs[i]?=some v->P i v)->Q (.ref l) h'):(bV js mi tg mI elt δ h).W Q:=by
 unfold bV;rw[e,Rs.bind_ok];refine yS (λi h'=>Ext h1 h'/\∃vs:List PV,vs.length=i/\h'[h1.length]?=some (.lst vs)/\∀i v,vs[i]?=some v->P i v) xs 0 _ ⟨Ext.app _ _,[],rfl,by simp,λi v hv=>by simp at hv⟩ (λi x h' _ hx hi=>?_) (λh' hi=>?_)
 ·obtain⟨x1,vs,lv,g1,ov⟩:=hi;have hx:xs[i]?=some x:=by simpa using hx
  have OR:=(Pv.mp hx).1;obtain⟨δ1,ht,hs⟩:=step i x hx;refine⟨hg _ x1,δ1,ht,?_⟩;have hY:mI δ1 h'=.ok true h':=rfl;rw[hY,rV,if_pos rfl];refine hs h' x1 _ λv h2 x2 pv=>?_;refine⟨_,x2 _ _ g1,by omega,(x1.trans x2).setN (PD _),vs++[v],by simp[lv],bH (x2 _ _ g1),λj w hw=>?_⟩;rcases Nat.lt_trichotomy j vs.length with z|z|z
  ·rw[QC z]at hw;exact ov j w hw
  ·rw[z,Q1 (PD _),Nat.sub_self]at hw;cases hw
   rw[z,lv];exact pv
  ·rw[Q1 (by omega)]at hw;have:=(Pv.mp hw).1;simp at this;omega
 ·obtain⟨x1,vs,lv,g1,ov⟩:=hi;rw[Nat.zero_add]at lv;exact⟨hg _ x1,k _ _ vs x1 (PD _) lv g1 ov⟩
def anyC(S:Seen)(nm:Nm):Bool:=S.any λp=>decide (p.1=nm.1)&&decide (nm.2<=p.2)
theorem KN(nd:(S.map (·.1)).Nodup)(nm:Nm):anyC S nm=cvB S nm:=by
 unfold anyC cvB
 induction S with
 |nil=>rfl
 |cons p r ih=>
  rw[P0,Rv]at nd;rw[RI,cD]
  by_cases c:p.1=nm.1
  ·rw[if_pos c,decide_eq_true c];have:(r.any λp=>decide (p.1=nm.1)&&decide (nm.2<=p.2))=false:=by
    rw[List.any_eq_false];intro q hq z;simp only[PZ,decide_eq_true_eq]at z;exact nd.1 (by rw[c,<-z.1];exact Qc.mpr ⟨q,hq,rfl⟩)
   rw[this];simp
  ·rw[if_neg c,decide_eq_false c,ih nd.2];simp
theorem Iv(nd:(S.map (·.1)).Nodup)(nm:Nm)(h:PH):jD [sv S,pv nm] h=.ok (.bl (cvB S nm)) h:=by
 rw[<-KN nd];have w:(jD [sv S,pv nm] h).W λq h'=>q=.bl (anyC S nm)/\h'=h:=by
  refine bG ?_;unfold mT;rw[aD];refine EV (xs:=S.map pv) (λq δ h'=>h'=h/\anyC (S.drop q) nm=anyC S nm/\∃x2 x3,δ=[some (sv S),some (pv nm),x2,x3]) (.inl (by simp[AE])) ⟨rfl,rfl,_,_,rfl⟩ ?_ ?_
  ·rintro q x δ h' hx ⟨rfl,hk,x2,x3,rfl⟩;rw[PQ]at hx;obtain⟨p,hp,rfl⟩:=Qa.mp hx;have hd:S.drop q=p::S.drop (q+1):=by
    obtain⟨hl,e⟩:=Pv.mp hp;rw[Q7 hl,e]
   rw[hd]at hk;refine⟨_,by simp[pv];rfl,?_⟩;unfold jC;have hk:((decide (p.1=nm.1)&&decide (nm.2<=p.2)) || anyC (S.drop (q+1)) nm)=anyC S nm:=hk
   by_cases e:p.1=nm.1
   ·by_cases e2:nm.2<=p.2
    ·rw[decide_eq_true e,decide_eq_true e2]at hk;simp[pv,e,e2];rw[<-hk];rfl
    ·rw[decide_eq_false e2]at hk;simp at hk;simp[pv,e,e2];exact hk
   ·rw[decide_eq_false e]at hk;simp at hk;simp[pv,e];exact hk
  ·rintro δ h' ⟨rfl,hk,x2,x3,rfl⟩;refine now ?_;rw[PC,List.drop_length]at hk;simp;exact hk.symm
 obtain⟨q,h',e,rfl,rfl⟩:=jV w;exact e
theorem Ga(h:PH):zH [.str w] h=.ok (.str (eV w)) h:=by
 have w:(zH [.str w] h).W λq h'=>q=.str (eV w)/\h'=h:=by
  refine bG ?_;unfold Bt eV;rw[aD,bE]
  by_cases c1:w="add"
  ·simp[c1]
  ·simp[c1];refine now ?_;rw[aD,bE]
   by_cases c2:w="choose"
   ·simp[c2]
   ·simp[c2];refine now ?_;simp
 obtain⟨q,h',e,rfl,rfl⟩:=jV w;exact e
theorem Gb{α:Type}{xs:List α}(h:m<=xs.length):cN xs none (some (m:Int))=xs.take m:=by
 unfold cN HT.sIx;simp;rw[Tc h];rw[if_neg (by omega)];exact Tc h
theorem AL{α:Type}{xs:List α}(h:m<=xs.length):cN xs (some (m:Int)) none=xs.drop m:=by
 unfold cN HT.sIx;simp;rw[Tc h,List.take_of_length_le (by rw[List.length_drop];omega)];rw[if_neg (by omega)]
theorem lL{α β:Type}(f:α->β)(xs:List α)(lo hi:Option Int):cN (xs.map f) lo hi=(cN xs lo hi).map f:=by
 unfold cN;simp[List.map_take,List.map_drop]
theorem Gc{p q:Nm}:vEq (pv p) (pv q) h=.ok (.bl (decide (p=q))) h:=by
 rw[yN (xH (n:=39)) (xH (n:=39))]
 congr 2
 rw[decide_eq_decide];exact⟨nH,λe=>by rw[e]⟩
theorem Ow(a:Ac):∃w r,aN a=.str w::r/\(KdA a->(w="make" ↔ ∃kd z,a=.make kd z)):=by
 cases a with
 |make kd z=>exact⟨_,_,rfl,λ_=>⟨λ_=>⟨_,_,rfl⟩,λ_=>rfl⟩⟩
 |num w th v=>exact⟨_,_,rfl,λhw=>⟨λz=>((nK (w:=w) hw).1 (.inl z)).elim,λ⟨_,_,z⟩=>nomatch z⟩⟩
def II(os:List Dd)(lr i:Nat)(d:Dd)(th:Nm)(hA:PH)(q:Nat)(δ:Ev)(h':PH):Prop:=h'=hA/\((os.take i).take q).find? (mkB th)=none/\∃x3 x4 x5,δ=[some (.ref lr),some (.int i),some (.tup (aN d.act)),x3,x4,x5]
theorem Iw(wf:∀d∈os,Wf d)(ln:os.length<=50)(g:h[lr]?=some (.lst (os.map dP))){d:Dd}(hd:os[i]?=some d)(k:∀h',Ext h h'->Q (.bl (idD (os.take i) d)) h'):(Bv [.ref lr,.int i] h).W Q:=by
 have hi:=(Pv.mp hd).1;refine bG ?_;unfold Bu;rw[aD];have ei:atI (os.map dP) (i:Int)=some (dP d):=aR (by rw[PQ,hd];rfl);simp[cH g,ei,dP2];refine now ?_;rw[aD,bE];have D:=wf d (Qp hd);cases ea:d.act with
 |make kd z=>
  have e1:idD (os.take i) d=false:=by unfold idD;rw[ea]
  rw[e1]at k;have i0:atI (aN (.make kd z)) 0=some (.str "make"):=aR (i:=0) rfl;generalize aN (.make kd z)=A at i0;simp[i0];exact k _ (Ext.refl _)
 |num w th v=>
  have hw:=D.act;rw[ea]at hw;have hM:¬ w="make" := λz=>(nK hw).1 (.inl z);have i0:atI (aN (.num w th v)) 0=some (.str w):=aR (i:=0) rfl;have i1:atI (aN (.num w th v)) 1=some (pv th):=aR (i:=1) rfl;rw[<-ea]at i0 i1⊢;have s1:=sD (lo:=none) (hi:=some (i:Int)) g;rw[lL,Gb (by omega)]at s1;have x1:Ext h (h++[MO.lst ((os.take i).map dP)]):=Ext.app _ _;have g1:(h++[MO.lst ((os.take i).map dP)])[h.length]?=some (.lst ((os.take i).map dP)):=aF;generalize h.length=l1 at s1 g1;generalize h++[MO.lst ((os.take i).map dP)]=hA at s1 g1 x1;have e0:aX (aK (aB vEq (aB vAt (mV 2) (mC (.int 0))) (mC (.str "make")))) (aV (mC (.bl false))) bP [some (.ref lr),some (.int i),some (.tup (aN d.act)),none,none,none] h=.nx [some (.ref lr),some (.int i),some (.tup (aN d.act)),none,none,none] h:=by
   generalize aN d.act=A at i0;simp[aX,i0,hM,bP]
  have it:vIx (.tup (aN d.act)) (.int 0) h=.ok (.str w) h:=by rw[Hz,i0];rfl
  generalize qo:aN d.act=A at i0 i1 it;simp[i0,hM];refine now ?_;rw[aD];refine iW (n:=l1) (xs:=(os.take i).map dP) (h1:=hA) (II os lr i d th hA) (by simp[s1]) g1 ⟨rfl,rfl,_,_,_,by rw[qo]⟩ (λq δ h' _ j=>j.1▸g1) ?_ ?_
  ·rintro q y δ h' hy ⟨rfl,nf,x3,x4,x5,rfl⟩;rw[PQ]at hy;obtain⟨e,he,rfl⟩:=Qa.mp hy;have ie:e∈os:=SQ (Qp he);have tk:(os.take i).take (q+1)=(os.take i).take q++[e]:=by rw[QP,he];rfl
   refine⟨[some (.ref lr),some (.int i),some (.tup A),some (pv e.nm),some (sv e.seen),some (.tup (aN e.act))],by rw[qo];simp[dP],?_⟩;unfold uI;rw[bE];have nx:mkB th e=false->II os lr i d th h' (q+1) [some (.ref lr),some (.int i),some (.tup A),some (pv e.nm),some (sv e.seen),some (.tup (aN e.act))] h':=λhm=>⟨rfl,by rw[tk,fH,nf,Qv,hm];rfl,_,_,_,by rw[qo]⟩
   by_cases c1:e.nm=th
   ·obtain⟨w',r',e2,pe⟩:=Ow e.act;have pe:=pe (wf e ie).act;have j0:atI (aN e.act) 0=some (.str w'):=by rw[e2];exact aR (i:=0) rfl
    by_cases c2:w'="make"
    ·obtain⟨kd,z,e3⟩:=pe.mp c2;have j1:atI (aN e.act) 1=some (.str kd):=by rw[e3];exact aR (i:=1) rfl
     have hm:mkB th e=true:=by unfold mkB;rw[decide_eq_true c1,e3];rfl
     have ek:kOf (os.take i) th=some kd:=by
      unfold kOf;have:os.take i=(os.take i).take q++(e::(os.take i).drop (q+1)):=by
       obtain⟨hl,e9⟩:=Pv.mp he;rw[<-e9,<-Q7 hl,RA]
      rw[this,fH,nf,Qv,hm]
      show some (kdD e)=some kd
      unfold kdD;rw[e3]
     have ed:idD (os.take i) d=!decide (kd=eV w):=by
      unfold idD;rw[ea]
      show decide (kOf (os.take i) th≠some (eV w))=_
      rw[ek];simp
     rw[ed]at k;generalize aN e.act=B at j0 j1;simp[i1,Gc,c1,j0,c2,j1,i0,Ga];exact k _ x1
    ·have hm:mkB th e=false:=by
      unfold mkB;cases e3:e.act with
      |make kd z=>exact(c2 (pe.mpr ⟨kd,z,e3⟩)).elim
      |num _ _ _=>simp
     have:=nx hm;generalize aN e.act=B at j0 this;simp[i1,Gc,c1,j0,c2];rw[<-c1];rw[c1];simpa[c1] using this
   ·have hm:mkB th e=false:=by unfold mkB;rw[decide_eq_false c1];rfl
    simp[i1,Gc,c1];exact nx hm
  ·rintro δ h' ⟨rfl,nf,x3,x4,x5,rfl⟩;rw[PC,RF]at nf;have ed:idD (os.take i) d=true:=by
    unfold idD;rw[ea]
    show decide (kOf (os.take i) th≠some (eV w))=_
    unfold kOf;rw[nf];simp
   rw[ed]at k;refine now ?_;simp;exact k _ x1
structure Wg(d:Dd):Prop where
 wf:Wf d
 nd:(d.seen.map (·.1)).Nodup
def JI(os:List Dd)(lr i:Nat)(d:Dd)(hA:PH)(q:Nat)(δ:Ev)(h':PH):Prop:=h'=hA/\((os.drop (i+1)).take q).find? (od d)=none/\∃x5 x6 x7,δ=[some (.ref lr),some (.int i),some (pv d.nm),some (sv d.seen),some (.tup (aN d.act)),x5,x6,x7]
theorem Gd{d:Dd}:jN os i os.length d=(os.drop (i+1)).find? (od d):=by
 unfold jN;rw[RF]
theorem Iy(wf:∀d∈os,Wg d)(ln:os.length<=50)(g:h[lr]?=some (.lst (os.map dP))){d:Dd}(hd:os[i]?=some d)(k:∀h',Ext h h'->Q (iL os i d) h'):(uK [.ref lr,.int i] h).W Q:=by
 have hi:=(Pv.mp hd).1;refine bG ?_;unfold Bw;rw[aD];have ei:atI (os.map dP) (i:Int)=some (dP d):=aR (by rw[PQ,hd];rfl);simp[cH g,ei];refine⟨[some (.ref lr),some (.int i),some (pv d.nm),some (sv d.seen),some (.tup (aN d.act)),none,none,none],by simp[dP],?_⟩;refine now ?_;rw[aD,bE];simp;refine Iw (λd hd=>(wf d hd).wf) ln g hd λh1 x1=>?_;unfold iL at k;cases ed:idD (os.take i) d with
 |true=>
  rw[ed,if_pos rfl]at k;simp;exact k _ x1
 |false=>
  rw[ed,if_neg PY,Gd]at k;simp;refine now ?_;rw[aD];have s1:=sD (lo:=some ((i+1:Nat):Int)) (hi:=none) (x1 _ _ g);rw[lL,AL (by omega)]at s1;have x2:Ext h1 (h1++[MO.lst ((os.drop (i+1)).map dP)]):=Ext.app _ _;have g1:(h1++[MO.lst ((os.drop (i+1)).map dP)])[h1.length]?=some (.lst ((os.drop (i+1)).map dP)):=aF;generalize h1.length=l1 at s1 g1;generalize h1++[MO.lst ((os.drop (i+1)).map dP)]=hA at s1 g1 x2;have yp:vSl (.ref lr) (some ((i:Int)+1)) none h1=.ok (.ref l1) hA:=by rw[<-s1];congr 2
  have xx:=x1.trans x2;refine iW (n:=l1) (xs:=(os.drop (i+1)).map dP) (h1:=hA) (JI os lr i d hA) (by simp[yp]) g1 ⟨rfl,rfl,_,_,_,rfl⟩ (λq δ h' _ j=>j.1▸g1) ?_ ?_
  ·rintro q y δ h' hy ⟨rfl,nf,x5,x6,x7,rfl⟩;rw[PQ]at hy;obtain⟨e,he,rfl⟩:=Qa.mp hy;have ie:e∈os:=List.mem_of_mem_drop (Qp he);have tk:(os.drop (i+1)).take (q+1)=(os.drop (i+1)).take q++[e]:=by rw[QP,he];rfl
   refine⟨[some (.ref lr),some (.int i),some (pv d.nm),some (sv d.seen),some (.tup (aN d.act)),some (pv e.nm),some (sv e.seen),some (.tup (aN e.act))],by simp[dP],?_⟩;have nx:od d e=false->JI os lr i d h' (q+1) [some (.ref lr),some (.int i),some (pv d.nm),some (sv d.seen),some (.tup (aN d.act)),some (pv e.nm),some (sv e.seen),some (.tup (aN e.act))] h':=λhm=>⟨rfl,by rw[tk,fH,nf,Qv,hm];rfl,_,_,_,rfl⟩;have yes:od d e=true->Q (.tup [.str "outdone",pv e.nm]) h':=λhm=>by
    have:(os.drop (i+1)).find? (od d)=some e:=by
     have:os.drop (i+1)=(os.drop (i+1)).take q++(e::(os.drop (i+1)).drop (q+1)):=by
      obtain⟨hl,e9⟩:=Pv.mp he;rw[<-e9,<-Q7 hl,RA]
     rw[this,fH,nf,Qv,hm];rfl
    rw[this]at k;exact k _ xx
   unfold uJ;rw[aD,bE];obtain⟨a1,a2,a3,a4,a5,a6,a7,a8,a9,qb,vy,wu⟩:=hW;cases ee:e.act with
   |make kd z=>
    have j0:atI (aN (.make kd z)) 0=some (.str "make"):=aR (i:=0) rfl;have hm:od d e=false:=by unfold od;rw[ee];cases d.act <;> rfl
    have:=nx hm;rw[ee]at this;generalize aN (.make kd z)=B at j0 this;simp[j0];exact this
   |num w' th' v'=>
    have xf:=(wf e ie).wf.act;rw[ee]at xf;have hM:¬ w'="make" := λz=>(nK xf).1 (.inl z);have j0:atI (aN (.num w' th' v')) 0=some (.str w'):=aR (i:=0) rfl;have j1:atI (aN (.num w' th' v')) 1=some (pv th'):=aR (i:=1) rfl;have j2:atI (aN (.num w' th' v')) 2=some (.int v'):=aR (i:=2) rfl;have cv:=Iv (wf e ie).nd d.nm h';rw[ee]at nx;cases ea:d.act with
    |make kd z=>
     have hm:od d e=false:=by unfold od;rw[ea]
     have:=nx hm;rw[ea]at this;have i1:atI (aN (.make kd z)) 1=some (.str kd):=aR (i:=1) rfl;have ne:vNe (pv th') (.str kd) h'=.ok (.bl true) h':=Ds (x:=pv th') (y:=.str kd) (xH (n:=39)) rfl (λz=>by unfold pv at z;cases z) h';generalize aN (.num w' th' v')=B at j0 j1 j2 this;generalize aN (.make kd z)=A at i1 this;simp[j0,hM,j1,i1,ne];exact this
    |num w th v=>
     rw[ea]at nx;have i0:atI (aN (.num w th v)) 0=some (.str w):=aR (i:=0) rfl;have i1:atI (aN (.num w th v)) 1=some (pv th):=aR (i:=1) rfl;have i2:atI (aN (.num w th v)) 2=some (.int v):=aR (i:=2) rfl;have eo:od d e=(decide (th'=th)&&(cvB e.seen d.nm&&((decide (w="choose")&&decide (w'="choose")) || (decide (w="put")&&(decide (w'="take")&&decide (v'=v)))))):=by unfold od;rw[ea,ee]
     rw[eo]at nx yes;have ne:vNe (pv th') (pv th) h'=.ok (.bl (!decide (th'=th))) h':=by
      rw[tT (xH (n:=39)) (xH (n:=39))]
      congr 3
      rw[decide_eq_decide];exact⟨nH,λe=>by rw[e]⟩
     generalize aN (.num w' th' v')=B at j0 j1 j2 nx;generalize aN (.num w th v)=A at i0 i1 i2 nx
     by_cases c1:th'=th
     ·rw[decide_eq_true c1]at ne nx yes;cases c2:cvB e.seen d.nm with
      |false=>
       rw[c2]at cv nx;simp[j0,hM,j1,i1,ne,cv];exact nx (by simp)
      |true=>
       rw[c2]at cv nx yes;simp[j0,hM,j1,i1,ne,cv];refine now ?_;rw[aD,bE]
       by_cases c3:w="choose"
       ·by_cases c4:w'="choose"
        ·simp[i0,c3,j0,c4];exact yes (by simp[c3,c4])
        ·simp[i0,c3,j0,c4];refine now ?_;rw[bE];simp[i0,c3,qb];exact nx (by simp[c3,c4,qb])
       ·simp[i0,c3];refine now ?_;rw[bE]
        by_cases c5:w="put"
        ·by_cases c6:w'="take"
         ·by_cases c7:v'=v
          ·simp[i0,c5,j0,c6,j2,i2,c7];exact yes (by simp[c5,c6,c7])
          ·simp[i0,c5,j0,c6,j2,i2,c7];exact nx (by simp[c5,c6,c7,a3])
         ·simp[i0,c5,j0,c6];exact nx (by simp[c5,c6,a3])
        ·simp[i0,c5];exact nx (by simp[c3,c5])
     ·rw[decide_eq_false c1]at ne nx;simp[j0,hM,j1,i1,ne];exact nx (by simp)
  ·rintro δ h' ⟨rfl,nf,x5,x6,x7,rfl⟩;rw[PC,RF]at nf;rw[nf]at k;refine now ?_;simp;exact k _ xx
def drawn(c k:Int):Int:=
 let n:=(c+7919*k+1)*48271%2147483647
 n*(n/1009+69621)%2147483647
theorem fI(c k:Int):0<=drawn c k/\drawn c k<2147483647:=⟨Int.emod_nonneg _ (by decide),Int.emod_lt_of_pos _ (by decide)⟩
@[simp]theorem N9(c k:Int)(h:PH):aW [.int c,.int k] h=.ok (.int (drawn c k)) h:=by
 simp(disch:=omega) [aW,mFn,zC,aG,aS,aV,drawn]
theorem BF(h:1<=z.length):(Sv z none (some (-1))).cps.toList=z.cps.toList.dropLast:=by
 have e:Sv z none (some (-1))=Sv z none (some (-1+(z.length:Int))):=StrLaws.sliceText_neg_hi z none (by omega) (by omega);rw[e,FK (by omega) (by omega),List.dropLast_eq_take,len_list]
 congr 1
 omega
abbrev Ge:Str:="klmno"
theorem DQ:Ge.cps.toList=[107,108,109,110,111]:=by decide +kernel
def LI5(hs:List Str)(gw:List Nat)(c:Int)(q:Nat)(lh:Nat)(x4:Option PV)(h2:PH)(i:Nat)(δ:Ev)(h3:PH):Prop:=h3=h2/\∃(w:Str)(x5:Option PV),w.length<=8/\1<=w.length/\w.cps.toList.dropLast=gw/\(w∉hs\/∀j a,j<i->Ge.cps.toList[j]?=some a->∃z∈hs,z.cps.toList=gw++[a])/\δ=[some (.int c),some (.ref lh),some (.int q),some (.str w),x4,x5]
variable{gw:List Nat}{hs:List Str}
theorem Iz(hl:hs.length<=3)(h:∀j a,j<5->Ge.cps.toList[j]?=some a->∃z∈hs,z.cps.toList=gw++[a]):False:=by
 rw[DQ]at h;have nd:([107,108,109,110,111].map λa=>gw++[a]).Nodup:=by simp
 have:=Sf (l₂:=hs.map λz=>z.cps.toList) nd λx hx=>by
  obtain⟨a,ha,rfl⟩:=Qc.mp hx;obtain⟨j,hj,e⟩:=SR.mp ha;obtain⟨z,hz,ez⟩:=h j a (by simpa using hj) (by rw[Qo hj,e])
  exact Qc.mpr ⟨z,hz,ez⟩
 simp at this;omega
def HI(c:Int)(h:PH)(q:Nat)(δ:Ev)(h':PH):Prop:=∃hs:List Str,Ext h h'/\h'[h.length]?=some (.lst (hs.map PV.str))/\hs.length=q/\hs.Nodup/\∃x2 x3 x4 x5,δ=[some (.int c),some (.ref h.length),x2,x3,x4,x5]
theorem Gf(c:Int)(h:PH)(Q:PV->PH->Prop)(k:∀(hs:List Str) l h',Ext h h'->h'[l]?=some (.lst (hs.map PV.str))->hs.length=3->hs.Nodup->Q (.ref l) h'):(zE [.int c] h).W Q:=by
 refine bG ?_;unfold zD;rw[aD];simp;have x0:Ext h (h++[MO.lst []]):=Ext.app _ _;have g0:(h++[MO.lst []])[h.length]?=some (.lst (([]:List Str).map PV.str)):=aF;generalize h++[MO.lst []]=hA at x0 g0;refine now ?_;rw[aD];refine Bk (j:=3) (HI c h) (by simp) (by omega) ⟨[],x0,g0,rfl,List.nodup_nil,_,_,_,_,rfl⟩ ?_ ?_
 ·rintro q δ h' hq ⟨hs,x,g,lh,nd,x2,x3,x4,x5,rfl⟩;unfold qH;rw[aD];simp;refine now ?_;rw[aD];have hd:=fI c (50+q);refine Bk (j:=1+drawn c (50+q)%8) (λi δ h2=>h2=h'/\∃(w:Str)(x4:Option PV),w.length=i/\δ=[some (.int c),some (.ref h.length),some (.int q),some (.str w),x4,x5]) (by simp(disch:=omega)) (by omega) ⟨rfl,_,_,rfl,rfl⟩ ?_ ?_
  ·rintro i δ h2 hi ⟨rfl,w,x4,lw,rfl⟩;unfold qF;have hd2:=fI c (60+9*q+i);have hc:=I0 (i:=drawn c (60+9*q+i)%26) (by omega) (by omega);have hl:=xG;have h1:(⟨#[97+(drawn c (60+9*q+i)%26).toNat]⟩:Str).length=1:=rfl;have hv:vIx (.str "abcdefghijklmnopqrstuvwxyz") (.int (drawn c (60+9*q+i)%26)) h2=.ok (.str ⟨#[97+(drawn c (60+9*q+i)%26).toNat]⟩) h2:=by
    show vIx (.str FH) _ _=_
    rw[sC (by rw[xG];omega),hc];rfl
   simp(disch:=omega) [-sC,hv];rw[uR];omega
  ·rintro δ h2 ⟨rfl,w,x4,lw,rfl⟩;refine now ?_;rw[aD];refine KI (x:=Ge) (LI5 hs w.cps.toList.dropLast c q h.length x4 h2) (by simp) (by decide +kernel) ⟨rfl,w,_,by omega,by omega,rfl,.inr λj a hj=>absurd hj (Ta _),rfl⟩ ?_ ?_
   ·rintro i cc δ h3 hc ⟨rfl,y,x5,ly,l1,es,hy,rfl⟩;refine⟨_,rfl,?_⟩;unfold qG;rw[bE];have al:(hs.map PV.str).all (PV.pl 39)=true:=by
     rw[Qf];intro y hy;obtain⟨t,_,rfl⟩:=Qc.mp hy;rfl
    have cf:=HC (x:=.str y) g rfl al;have sl:=BF l1;have e1:(Sv y none (some (-1))++(⟨#[cc]⟩:Str)).cps.toList=w.cps.toList.dropLast++[cc]:=by rw[app_list,sl,es]
    have l2:(Sv y none (some (-1))).length=y.length-1:=by rw[<-len_list,sl,List.length_dropLast,len_list]
    have h1:(⟨#[cc]⟩:Str).length=1:=rfl;have oo:(PV.str y∈hs.map PV.str)↔y∈hs:=⟨λz=>by obtain⟨t,ht,e⟩:=Qc.mp z;exact PV.str.inj e▸ht,λz=>Qc.mpr ⟨y,z,rfl⟩⟩
    by_cases c1:y∈hs
    ·rw[decide_eq_true (oo.mpr c1)]at cf;simp(disch:=omega) [Au g,cf];have hy:=hy.resolve_left (λz=>z c1);refine⟨rfl,_,_,by rw[uR];omega,by rw[uR];omega,by rw[e1];simp,?_,rfl⟩
     by_cases c2:(Sv y none (some (-1))++(⟨#[cc]⟩:Str))∈hs
     ·refine .inr λj a hj ea=>?_;rcases SF j i with z|z
      ·exact hy j a z ea
      ·have:j=i:=by omega
       subst this;rw[hc]at ea;cases ea
       exact⟨_,c2,e1⟩
     ·exact .inl c2
    ·rw[decide_eq_false (λz=>c1 (oo.mp z))]at cf;simp[Au g,cf];exact⟨rfl,y,_,ly,l1,es,.inl c1,rfl⟩
   ·rintro δ h3 ⟨rfl,y,x5,ly,l1,es,hy,rfl⟩;refine now ?_;have s5:Ge.cps.size=5:=by decide +kernel
    have ny:y∉hs:=hy.resolve_right λz=>Iz (hs:=hs) (by omega) λj a hj ea=>z j a (by omega) ea;have ap:=dH (p:=.str y) g (by rw[PC];omega);rw[show hs.map PV.str++[.str y]=(hs++[y]).map PV.str by simp]at ap;simp[iV g];rw[ap,rV];refine⟨hs++[y],Cr x,bH g,by simp[lh],?_,_,_,_,_,rfl⟩;rw[QM];exact⟨nd,by simp,λa ha b hb e=>ny (by rw[Qe.mp hb]at e;exact e▸ha)⟩
 ·rintro δ h' ⟨hs,x,g,lh,nd,x2,x3,x4,x5,rfl⟩;refine now ?_;obtain⟨zs,pz,ez⟩:=yZ g (by omega);simp[ez];have:=pz.length_eq;exact k zs _ _ (x.trans (Ext.app _ _)) aF (by omega) (pz.nodup_iff.mpr nd)
theorem Gg{α:Type}{xs:List α}{f:α->PV}{i:Int}(h:xs≠[]):∃x∈xs,atI (xs.map f) (i%(xs.length:Int))=some (f x):=by
 obtain⟨p,e,m⟩:=yQ (xs:=xs.map f) (i:=i) (by intro z;exact h (List.map_eq_nil_iff.mp z));obtain⟨x,hx,rfl⟩:=Qc.mp m;rw[PC]at e;exact⟨x,hx,e⟩
theorem KO(L:List Nm):(L.map pv).all (PV.pl 39)=true:=by
 rw[Qf];intro y hy;obtain⟨t,_,rfl⟩:=Qc.mp hy;rfl
theorem BG(c:Int)(h:PH)(Q:PV->PH->Prop)(k:∀(as:List Int) l h',Ext h h'->h'[l]?=some (.lst (as.map PV.int))->as.length=3->Q (.ref l) h'):(qJ [.int c] h).W Q:=by
 refine bG ?_;unfold qI;rw[aD];simp(disch:=omega);generalize c/5%19999999999999999999999999999999999999999-9999999999999999999999999999999999999999=far;refine now ?_;simp(disch:=omega);exact k [far,-(far/2),c%7-3] _ _ (Ext.app _ _) aF rfl
def pH(d:Dd):Option Nm:=match d.act with
 |.make _ _=>some d.nm
 |_=>none
theorem Gh:(Pz "abyz").cps.toList.length=4:=by decide +kernel
theorem IA:(Pz "abyz").length=4:=by decide +kernel
variable{as:List Int}{ld:Nat}
set_option tactic.hygienic true in
theorem KQ{ds:List Dd}(wf:∀d∈ds,KdA d.act)(ln:ds.length<=100)(c p:Int)(l3:as.length=3)(g:h[ld]?=some (.lst (ds.map dP)))(ga:h[la]?=some (.lst (as.map PV.int)))(k:∀a h',Ext h h'->KdA a->Q (.tup (aN a)) h'):(FD [.int c,.int p,.ref ld,.ref la] h).W Q:=by
 refine bG ?_;unfold FC;rw[aD];have hc:=fW (js:=[none]) (tg:=gN 0) (tst:=aK (aB vEq (aB vAt (aB vAt (mV 0) (mC (.int 2))) (mC (.int 0))) (mC (.str "make")))) (elt:=aB vAt (mV 0) (mC (.int 0))) (m:=mV 2) (δ:=[some (.int c),some (.int p),some (.ref ld),some (.ref la),none,none,none,none,none]) (h:=h) (h1:=h) (n:=ld) (ys:=ds) (emb:=dP) (λd=>(pH d).map pv) (by simp) g (by omega) (λd hd=>⟨[some (dP d)],by simp[fQ],λh3 hx=>by
   have hw:=wf d hd;unfold pH;cases e:d.act with
   |make kd z=>
    have a0:atI (aN (.make kd z)) 0=some (.str "make"):=aR (i:=0) rfl;have e2:∀h,vIx (dP d) (.int 2) h=.ok (.tup (aN (.make kd z))) h:=λh=>by rw[dP2,e]
    generalize aN (.make kd z)=A at a0 e2;simp[e2,a0,dP0]
   |num w th v=>
    rw[e]at hw;have hM:¬ w="make" := λz=>(nK (w:=w) hw).1 (.inl z);have a0:atI (aN (.num w th v)) 0=some (.str w):=aR (i:=0) rfl;have e2:∀h,vIx (dP d) (.int 2) h=.ok (.tup (aN (.num w th v))) h:=λh=>by rw[dP2,e]
    generalize aN (.num w th v)=A at a0 e2;simp[e2,a0,hM]⟩)
 have es:ds.filterMap (λd=>(pH d).map pv)=(ds.filterMap pH).map pv:=by rw[List.map_filterMap]
 rw[es]at hc;have nS:ds.filterMap pH≠[]->ds≠[]:=λz w=>z (by rw[w];rfl);have xA:Ext h (h++[MO.lst ((ds.filterMap pH).map pv)]):=Ext.app _ _;have gS:(h++[MO.lst ((ds.filterMap pH).map pv)])[h.length]?=some (.lst ((ds.filterMap pH).map pv)):=aF;generalize ds.filterMap pH=S at hc xA gS nS;generalize h.length=lS at hc gS;generalize h++[MO.lst (S.map pv)]=hA at hc xA gS;simp[hc];refine now ?_;rw[aD];have d2:=fI c 2;simp(disch:=omega);generalize drawn c 2%12=wy;refine now ?_;rw[aD,bE];have eq:=yO (Ext.app _ [MO.lst []] _ _ gS) aF (KO S) rfl;have xB:Ext hA (hA++[MO.lst []]):=Ext.app _ _
 -- a thing is made
 have mk:∀(h2:PH),Ext h h2->∀E:FE,(∀a h',Ext h h'->KdA a->E.rt (.tup (aN a)) h')->(aG (aS 6 (aB vAt (eJ (aA (mC (.str "choice")) (aA (mC (.str "bag")) (aA (mC (.str "count")) aC)))) (aB eZ (aL 2 aW (aA (mV 0) (aA (mC (.int 3)) aC))) (mC (.int 3)))))
   (aV (bK (aA (mC (.str "make")) (aA (mV 6) (aA (bK (aA (mC (.str "")) (aA (mC (.int 0)) aC))) (aA (aB Bm (aB vAt (mC (.str "abyz")) (aB eZ (aL 2 aW (aA (mV 0) (aA (mC (.int 4)) aC))) (mC (.int 4)))) (aB bJ (mC (.int 1)) (aB eZ (aL 2 aW (aA (mV 0) (aA (mC (.int 5)) aC))) (mC (.int 12))))) aC)))))) [some (.int c),some (.int p),some (.ref ld),some (.ref la),some (.ref lS),some (.int wy),none,none,none] h2).W E:=λh2 x2 E kk=>by
  rw[aD];have gk:(h2++[MO.lst [.str "choice",.str "bag",.str "count"]])[h2.length]?=some (.lst [.str "choice",.str "bag",.str "count"]):=aF;have d3:=fI c 3;obtain⟨kd,hk,ek⟩:∃kd:Str,Ic kd/\atI [PV.str "choice",.str "bag",.str "count"] (drawn c 3%3)=some (.str kd):=by
   have:drawn c 3%3=0\/drawn c 3%3=1\/drawn c 3%3=2:=by omega
   rcases this with e|e|e <;> rw[e]
   ·exact⟨"choice",.inr (.inl rfl),rfl⟩
   ·exact⟨"bag",.inr (.inr rfl),rfl⟩
   ·exact⟨"count",.inl rfl,rfl⟩
  simp(disch:=omega) [cH gk,ek];have x3:Ext h2 (h2++[MO.lst [.str "choice",.str "bag",.str "count"]]):=Ext.app _ _;generalize h2++[MO.lst [.str "choice",.str "bag",.str "count"]]=h3 at x3;refine now ?_;have d5:=fI c 5;obtain⟨cc,ec,_⟩:=yQ (xs:=(Pz "abyz").cps.toList) (i:=drawn c 4) (by intro z;have:=Gh;rw[z]at this;cases this);have ec:atI (Pz "abyz").cps.toList (drawn c 4%4)=some cc:=by rw[Gh]at ec;exact ec
  have hv:vIx (.str "abyz") (.int (drawn c 4%4)) h3=.ok (.str ⟨#[cc]⟩) h3:=by
   rw[sC (by rw[IA];omega),ec];rfl
  have hr:Bm (.str ⟨#[cc]⟩) (.int (1+drawn c 5%12)) h3=.ok (.str (Txt.mul ⟨#[cc]⟩ (1+drawn c 5%12))) h3:=by
   unfold Bm;exact if_pos ⟨show 1<=16 by omega,by omega,by omega⟩
  simp(disch:=omega) [-sC,hv,hr];exact kk (.make kd _) _ (x2.trans x3) hk
 by_cases c0:S=[]
 ·rw[decide_eq_true (by rw[c0];rfl)]at eq;simp[eq];exact mk _ (xA.trans xB) _ k
 ·rw[decide_eq_false (λz=>c0 (List.map_eq_nil_iff.mp z))]at eq
  by_cases c1:wy=0\/(p<3/\wy<9)
  ·rcases c1 with c1|⟨c1,c2⟩
   ·simp[eq,c1];subst c1;exact mk _ (xA.trans xB) _ k
   ·by_cases c3:wy=0
    ·simp[eq,c3];subst c3;exact mk _ (xA.trans xB) _ k
    ·simp[eq,c3,c1,c2];exact mk _ (xA.trans xB) _ k
  ·have c2:¬ wy=0:=λz=>c1 (.inl z);have tst:(if p<3 then wy<9 else False)=False:=by
    split
    ·rename_i z;exact eq_false λw=>c1 (.inr ⟨z,w⟩)
    ·rfl
   have xx:=xA.trans xB;have wb:=xB _ _ gS;have xc:=xx _ _ g;have wd:=xx _ _ ga;have cont:∀E:FE,(∀a h',Ext h h'->KdA a->E.rt (.tup (aN a)) h')->Lt (aG (aS 7 (aB vAt (eJ (aA (mC (.str "choose")) (aA (mC (.str "choose")) (aA (mC (.str "choose")) (aA (mC (.str "put")) (aA (mC (.str "put")) (aA (mC (.str "put")) (aA (mC (.str "take")) (aA (mC (.str "take")) (aA (mC (.str "add")) aC)))))))))) (aB eZ (aL 2 aW (aA (mV 0) (aA (mC (.int 3)) aC))) (mC (.int 9)))))
     (aG (aS 8 (aB vAt (mV 4) (aB eZ (aL 2 aW (aA (mV 0) (aA (mC (.int 6)) aC))) (mCB tR (aA (mV 4) aC)))))
     (aG (aX (aK (aB vEq (mV 5) (mC (.int 1)))) (aS 8 (aB vAt (aB vAt (mV 2) (mUn Ak (mC (.int 1)))) (mC (.int 0)))) bP)
     (aG (aX (aK (aB vEq (mV 5) (mC (.int 2)))) (aS 8 (bK (aA (mC (.str "")) (aA (mC (.int 0)) aC)))) bP)
     (aV (bK (aA (mV 7) (aA (mV 8) (aA (aB vAt (mV 3) (aB eZ (aL 2 aW (aA (mV 0) (aA (mC (.int 7)) aC))) (mC (.int 3)))) aC))))))))) E [some (.int c),some (.int p),some (.ref ld),some (.ref la),some (.ref lS),some (.int wy),none,none,none] (hA++[MO.lst []]):=λE kk=>by
    generalize hA++[MO.lst []]=hB at xx wb xc wd;refine now ?_;rw[aD];generalize pj:[PV.str "choose",.str "choose",.str "choose",.str "put",.str "put",.str "put",.str "take",.str "take",.str "add"]=ws;have gk:(hB++[MO.lst ws])[hB.length]?=some (.lst ws):=aF;have d3:=fI c 3;obtain⟨w,hw,ew⟩:∃w:Str,Bz w/\atI ws (drawn c 3%9)=some (.str w):=by
     obtain⟨x,e,m⟩:=yQ (xs:=ws) (i:=drawn c 3) (by rw[<-pj];exact λz=>nomatch z);have e':atI ws (drawn c 3%9)=some x:=by rw[<-pj]at e⊢;exact e
     rw[<-pj]at m;simp at m;rcases m with rfl|rfl|rfl|rfl
     ·exact⟨_,.inr (.inl rfl),e'⟩
     ·exact⟨_,.inr (.inr (.inl rfl)),e'⟩
     ·exact⟨_,.inr (.inr (.inr rfl)),e'⟩
     ·exact⟨_,.inl rfl,e'⟩
    simp(disch:=omega);rw[pj];simp(disch:=omega) [cH gk,ew];have x3:Ext hB (hB++[MO.lst ws]):=Ext.app _ _;generalize hB++[MO.lst ws]=hC at x3;have xj:=x3 _ _ wb;have tf:=x3 _ _ xc;have Pq:=x3 _ _ wd;refine now ?_;rw[aD];have ll:=oR xj;rw[PC]at ll;have hp:(0:Int)<S.length:=by have:=List.length_pos_iff.mpr c0;omega
    obtain⟨t0,_,et⟩:=Gg (xs:=S) (f:=pv) (i:=drawn c 6) c0;simp(disch:=omega) [ll,cH xj,et];refine now ?_;rw[aD,bE];obtain⟨r,dl,edl⟩:∃r dl,ds=r++[dl]:=⟨ds.dropLast,ds.getLast (nS c0),(List.dropLast_concat_getLast (nS c0)).symm⟩;have ea:atI (ds.map dP) (-1)=some (dP dl):=by rw[edl,Qq];exact EU
    obtain⟨v,_,ev⟩:=Gg (xs:=as) (f:=PV.int) (i:=drawn c 7) (λz=>by rw[z]at l3;cases l3);rw[l3]at ev;have ev:atI (as.map PV.int) (drawn c 7%3)=some (.int v):=ev;have last:∀t1:Nm,Lt (aV (bK (aA (mV 7) (aA (mV 8) (aA (aB vAt (mV 3) (aB eZ (aL 2 aW (aA (mV 0) (aA (mC (.int 7)) aC))) (mC (.int 3)))) aC))))) E [some (.int c),some (.int p),some (.ref ld),some (.ref la),some (.ref lS),some (.int wy),none,some (.str w),some (pv t1)] hC:=λt1=>by
     refine now ?_;simp(disch:=omega) [cH Pq,ev];exact kk (.num w t1 v) _ (xx.trans x3) hw
    by_cases e1:wy=1
    ·simp[e1,cH tf,ea,dP0];refine now ?_;rw[aD,bE];simp;have:=last dl.nm;rw[e1]at this;exact this
    ·simp[e1];refine now ?_;rw[aD,bE]
     by_cases e2:wy=2
     ·simp[e2];have:=last root;rw[e2]at this;exact this
     ·simp[e2];exact last t0
   simp[eq,c2]
   by_cases c3:p<3
   ·have c4:¬ wy<9:=λz=>c1 (.inr ⟨c3,z⟩);simp[c3,c4];exact cont _ k
   ·simp[c3];exact cont _ k
structure RD(ds:List Dd):Prop where
 nd:(ds.map (·.nm)).Nodup
 ok:∀d∈ds,Wg d
theorem pI(S:Seen)(h h':Str)(n:Int):look (dput S h n) h'=if h'=h then some n else look S h':=by
 have m:∀S:Seen,look (S.map λp=>if p.1=h then(p.1,n) else p) h'=if h'=h then(look S h).map (λ_=>n) else look S h':=λS=>by
  induction S with
  |nil=>simp[look]
  |cons x r ih=>
   rw[P0,cD,ih]
   by_cases e:x.1=h
   ·rw[if_pos e]
    by_cases c:h'=h
    ·rw[if_pos (show x.1=h' by rw[e,c]),if_pos c,cD,if_pos e];rfl
    ·have c2:¬ x.1=h':=λz=>c (z▸e);rw[if_neg (show ¬ x.1=h' from c2),if_neg c,if_neg c,cD,if_neg c2]
   ·rw[if_neg e]
    by_cases c:h'=h
    ·rw[if_neg (λz:x.1=h'=>e (z.trans c)),if_pos c,if_pos c,cD,if_neg e]
    ·rw[if_neg c,if_neg c,cD]
 have a:∀S:Seen,look S h=none->look (S++[(h,n)]) h'=if h'=h then some n else look S h':=λS=>by
  induction S with
  |nil=>
   intro _
   show(if h=h' then some n else none)=if h'=h then some n else none
   by_cases c:h'=h
   ·rw[if_pos c,if_pos c.symm]
   ·rw[if_neg c,if_neg λz=>c z.symm]
  |cons x r ih=>
   intro e;rw[cD]at e
   by_cases c:x.1=h
   ·rw[if_pos c]at e;cases e
   ·rw[if_neg c]at e;rw[List.cons_append,cD,cD,ih e]
    by_cases q:h'=h
    ·rw[if_pos q,if_pos q,if_neg (λz:x.1=h'=>c (z.trans q))]
    ·rw[if_neg q];rw[if_neg q]
 unfold dput;cases e:look S h with
 |none=>rw[if_neg (by simp)];exact a S e
 |some v=>rw[if_pos (by simp),m,e];rfl
structure MI(hs:List Str)(D:Seen)(ds:List Dd)(q:Nat):Prop where
 rd:RD ds
 lD:D.length<=3+q
 hm:∀w∈hs,∃m,look D w=some m/\0<=m
 dm:∀d∈ds,∃m,look D d.nm.1=some m/\d.nm.2<=m
theorem MI.step{D:Seen}{ds:List Dd}{q:Nat}(i:MI hs D ds q)(hw:w∈hs){m:Int}(e:look D w=some m)(hS:S.length<=4)(nS:(S.map (·.1)).Nodup){a:Ac}(ha:KdA a):MI hs (dput D w (m+1)) (ds++[⟨(w,m+1),S,a⟩]) (q+1):=by
 obtain⟨m',e',h0⟩:=i.hm w hw;rw[e]at e';cases e'
 have old:∀v x,look D v=some x->∃y,look (dput D w (m+1)) v=some y/\x<=y:=λv x ex=>by
  rw[pI]
  by_cases z:v=w
  ·rw[if_pos z];rw[z,e]at ex;cases ex;exact⟨_,rfl,by omega⟩
  ·rw[if_neg z];exact⟨x,ex,Int.le_refl _⟩
 refine⟨⟨?_,λd hd=>?_⟩,?_,λv hv=>?_,λd hd=>?_⟩
 ·rw[Qq,QM];refine⟨i.rd.nd,by simp,λp hp p' i6 z=>?_⟩;obtain⟨d,hd,rfl⟩:=Qc.mp hp;obtain⟨x,ex,lx⟩:=i.dm d hd;have:p'=(w,m+1):=by simpa using i6
  rw[z,this]at ex lx;rw[e]at ex;cases ex
  simp at lx;omega
 ·rcases Ql.mp hd with hd|hd
  ·exact i.rd.ok d hd
  ·rw[Qe.mp hd];exact⟨⟨by show S.length<=100;omega,ha,λz=>by have:=congrArg Prod.snd z;simp at this;omega⟩,nS⟩
 ·have:=Cq (S:=D) (h:=w) (n:=m+1);have:=i.lD;omega
 ·obtain⟨x,ex,hx⟩:=i.hm v hv;obtain⟨y,ey,hy⟩:=old v x ex;exact⟨y,ey,by omega⟩
 ·rcases Ql.mp hd with hd|hd
  ·obtain⟨x,ex,hx⟩:=i.dm d hd;obtain⟨y,ey,hy⟩:=old _ x ex;exact⟨y,ey,by omega⟩
  ·rw[Qe.mp hd];exact⟨m+1,by rw[pI,if_pos rfl],Int.le_refl _⟩
theorem pJ{D:Seen}{m:Int}(g:h[n]?=some (.dK (emb D)))(e:look D w=some m):vIx (.ref n) (.str w) h=.ok (.int m) h:=by
 rw[Kw g,uQ,e];rfl
def Fr1(ls:Nat)(h h':PH):Prop:=∀(i:Nat) o,i≠ls->h[i]?=some o->h'[i]?=some o
def SN(hs:List Str)(x0 x2 x5 de:Option PV)(lh lm ls:Nat)(w:Str)(c:Int)(h:PH)(q:Nat)(δ:Ev)(h':PH):Prop:=∃S:Seen,Fr1 ls h h'/\h'[ls]?=some (.lst (S.map pv))/\S.length<=q/\(S.map (·.1)).Nodup/\(∀p∈S,p.1∈hs.take q)/\∃x8 x9,δ=[x0,some (.ref lh),x2,some (.ref lm),some (.str w),x5,some (.int c),some (.ref ls),x8,x9,de]
variable{lh:Nat}
theorem IB(lz:hs.Nodup){D:Seen}(hm:∀w∈hs,∃m,look D w=some m/\0<=m)(l3:hs.length=3){m:Int}(em:look D w=some m){ls:Nat}{c:Int}(n1:lh≠ls)(n2:lm≠ls)(gh:h[lh]?=some (.lst (hs.map PV.str)))(gm:h[lm]?=some (.dK (emb D)))(gs:h[ls]?=some (.lst [])){x0 x2 de:Option PV}(k:∀(S:Seen) h' x8 x9,Fr1 ls h h'->h'[ls]?=some (.lst (S.map pv))->S.length<=4->(S.map (·.1)).Nodup->E.nx [x0,some (.ref lh),x2,some (.ref lm),some (.str w),x5,some (.int c),some (.ref ls),x8,x9,de] h'):
  (cT (iG (aA (mC (.int 3)) aC)) (gN 8) iI [x0,some (.ref lh),x2,some (.ref lm),some (.str w),x5,some (.int c),some (.ref ls),x8,x9,de] h).W E:=by
 refine Bk (j:=3) (SN hs x0 x2 x5 de lh lm ls w c h) (by simp) (by omega) ⟨[],(λ_ _ _ e=>e),gs,PD _,List.nodup_nil,(λ_ z=>nomatch z),_,_,rfl⟩ ?_ ?_
 ·rintro q δ h' hq ⟨S,fr,gS,lS,nS,sS,x8,x9,rfl⟩;obtain⟨v,hv⟩:∃v,hs[q]?=some v:=⟨_,Qo (by omega)⟩;have av:atI (hs.map PV.str) (q:Int)=some (.str v):=aR (by rw[PQ,hv];rfl);obtain⟨mv,ev,h0⟩:=hm v (Qp hv);have kh:=fr _ _ n1 gh;have xl:=fr _ _ n2 gm;have q1:=pJ xl ev;have q2:=pJ xl em
  show(iI [x0,some (.ref lh),x2,some (.ref lm),some (.str w),x5,some (.int c),some (.ref ls),some (.int q),x9,de] h').W _
  unfold iI;rw[aD];have hd:=fI c (9+q);have hd8:=fI c 8;simp(disch:=omega) [cH kh,av,q1];refine now ?_;rw[aD,bE];have nv:v∉hs.take q:=λz=>by
   have e1:hs=hs.take q++(v::hs.drop (q+1)):=by
    obtain⟨hl,e⟩:=Pv.mp hv;rw[<-e,<-Q7 hl,RA]
   rw[e1,QM]at lz;exact lz.2.2 v z v (by simp) rfl
  have tk:hs.take (q+1)=hs.take q++[v]:=by rw[QP,hv];rfl
  have fin:∀(E:FE)(n:Int),(∀δ h',SN hs x0 x2 x5 de lh lm ls w c h (q+1) δ h'->E.nx δ h')->Lt (aX (aK (aB vGt (mV 9) (mC (.int 0)))) (kG (mMt isL (onL bA) (mV 7) (aA (bK (aA (aB vAt (mV 1) (mV 8)) (aA (mV 9) aC))) aC))) bP) E [x0,some (.ref lh),x2,some (.ref lm),some (.str w),x5,some (.int c),some (.ref ls),some (.int q),some (.int n),de] h':=λE n kk=>by
   refine now ?_;rw[bE]
   by_cases c0:0<n
   ·have ap:=dH (p:=pv (v,n)) gS (by rw[PC];omega);rw[show S.map pv++[pv (v,n)]=(S++[(v,n)]).map pv by simp]at ap;have iw:onL bA (.ref ls) [.tup [.str v,.int n]] h'=_:=ap;simp[c0,iV gS,cH kh,av];rw[iw,rV];refine kk _ _ ⟨S++[(v,n)],λi o hi e=>aE (fr i o hi e) (QS hi),bH gS,by simp;omega,?_,λp hp=>?_,_,_,rfl⟩
    ·rw[Qq,QM];refine⟨nS,by simp,λa ha b hb z=>?_⟩;obtain⟨p,hp,rfl⟩:=Qc.mp ha;have:b=v:=by simpa using hb
     rw[this]at z;exact nv (z▸sS p hp)
    ·rw[tk];rcases Ql.mp hp with hp|hp
     ·exact Qx _ (sS p hp)
     ·rw[Qe.mp hp];exact PM _ (by simp)
   ·simp[c0];exact kk _ _ ⟨S,fr,gS,by omega,nS,λp hp=>by rw[tk];exact Qx _ (sS p hp),_,_,rfl⟩
  by_cases c1:v=w
  ·subst c1;simp[cH kh,av,q2];refine fin _ _ ?_;exact λ_ _ z=>z
  ·simp[cH kh,av,c1];refine fin _ _ ?_;exact λ_ _ z=>z
 ·rintro δ h' ⟨S,fr,gS,lS,nS,sS,x8,x9,rfl⟩;have lS:S.length<=3:=lS;exact k S h' x8 x9 fr gS (by omega) nS
def DJ(h:PH)(ns:List Int)(hs:List Str)(as cs:List Int)(lh la lm ld lc:Nat)(q:Nat)(δ:Ev)(h':PH):Prop:=∃(D:Seen)(ds:List Dd),Ext h h'/\h'[lm]?=some (.dK (emb D))/\h'[ld]?=some (.lst (ds.map dP))/\h'[lc]?=some (.lst (cs.map PV.int))/\MI hs D ds q/\ds.length<=q/\∃x4 x6 x7 x8 x9 de,δ=[some (.fl (ns.map PV.int)),some (.ref lh),some (.ref la),some (.ref lm),x4,some (.ref ld),x6,x7,x8,x9,de]
variable{cs ns:List Int}
theorem DR(lz:hs.Nodup){lc:Nat}(b:h.length<=lm/\lm<ld/\ld<lc)(gh:h[lh]?=some (.lst (hs.map PV.str)))(ga:h[la]?=some (.lst (as.map PV.int)))(l3:hs.length=3)(a3:as.length=3){q:Nat}(hq:q<50){c:Int}(i:DJ h ns hs as cs lh la lm ld lc q δ h')(k:∀δ h',DJ h ns hs as cs lh la lm ld lc (q+1) δ h'->E.nx δ h'):(iJ (δ.set 6 (some (.int c))) h').W E:=by
 obtain⟨D,ds,x,gm,gd,gc,mi,u7,x4,x6,x7,x8,x9,de,rfl⟩:=i
 show(iJ [some (.fl (ns.map PV.int)),some (.ref lh),some (.ref la),some (.ref lm),x4,some (.ref ld),some (.int c),x7,x8,x9,de] h').W E
 have hlh:=(Pv.mp gh).1;have hla:=(Pv.mp ga).1;have Po:=(Pv.mp gc).1;have kh:=x _ _ gh;unfold iJ;rw[aD];obtain⟨w,hw,ew⟩:=Gg (xs:=hs) (f:=PV.str) (i:=drawn c 1) (λz=>by rw[z]at l3;cases l3);rw[l3]at ew;have ew:atI (hs.map PV.str) (drawn c 1%3)=some (.str w):=ew;simp(disch:=omega) [cH kh,ew];refine now ?_;rw[aD];simp;have y1:Ext h' (h'++[MO.lst []]):=Ext.app _ _;have gs:(h'++[MO.lst []])[h'.length]?=some (.lst []):=aF;generalize h'++[MO.lst []]=h1 at y1 gs;refine now ?_;rw[aD];obtain⟨m,em,m0⟩:=mi.hm w hw;refine IB lz mi.hm l3 em (by omega) (by omega) (y1 _ _ kh) (y1 _ _ gm) gs λS h2 x8 x9 fr gS lS nS=>?_;have qz:=fr _ _ (by omega) (y1 _ _ gm);have tf:=fr _ _ (by omega) (y1 _ _ gd);have OY:=fr _ _ (by omega) (y1 _ _ gc);have x2:Ext h h2:=λi o e=>have hh:=(Pv.mp e).1;fr i o (by omega) ((x.trans y1) _ _ e);generalize h'.length=ls at fr gS Po;clear fr gs y1;refine now ?_;rw[aD];have kx:gG (.ref lm) (.str w) (.int (m+1)) h2=some (h2.set lm (.dK (emb (dput D w (m+1))))):=by
  rw[Cm qz (by unfold emb;rw[PC];have:=mi.lD;omega),Cp]
 simp[pJ qz em];refine⟨_,kx,now ?_⟩;have rm:=bH (o':=MO.dK (emb (dput D w (m+1)))) qz;have qf:=aE (o':=MO.dK (emb (dput D w (m+1)))) (n:=lm) tf (by omega);have we:=aE (o':=MO.dK (emb (dput D w (m+1)))) (n:=lm) OY (by omega);have xb:=aE (o':=MO.dK (emb (dput D w (m+1)))) (n:=lm) gS (by omega);have x3:Ext h (h2.set lm (MO.dK (emb (dput D w (m+1))))):=x2.setN b.1;generalize h2.set lm (MO.dK (emb (dput D w (m+1))))=h3 at rm qf we xb x3;rw[aD];have ll:=oR qf;rw[PC]at ll;simp[ll];refine KQ (λd hd=>(mi.rd.ok d hd).wf.act) (by omega) c ds.length a3 qf (x3 _ _ ga) λa h4 x4 ha=>?_;refine now ?_;have et:pX [.ref ls] h4=.ok (sv S) h4:=by
  rw[AE];simp[pX,aO,x4 _ _ xb]
 have q1:vIx (.ref lm) (.str w) h4=.ok (.int (m+1)) h4:=pJ (x4 _ _ rm) (by rw[pI,if_pos rfl]);have uh:=x4 _ _ qf;have ap:=dH (p:=dP ⟨(w,m+1),S,a⟩) uh (by rw[PC];omega);rw[show ds.map dP++[dP ⟨(w,m+1),S,a⟩]=(ds++[Dd.mk (w,m+1) S a]).map dP by simp]at ap;have iw:onL bA (.ref ld) [.tup [.tup [.str w,.int (m+1)],sv S,.tup (aN a)]] h4=_:=ap;simp[iV uh,q1,et];rw[iw,rV];exact k _ _ ⟨dput D w (m+1),ds++[⟨(w,m+1),S,a⟩],(x3.trans x4).setN (by omega),aE (x4 _ _ rm) (by omega),bH uh,aE (x4 _ _ we) (by omega),mi.step hw em lS nS ha,by simp;omega,_,_,_,_,_,_,rfl⟩
def kyR(d:Dd):List Key:=[.inl (tot d.seen),.inr d.nm.1,.inl d.nm.2]
theorem IC(a b:Dd):aZ (kyR a) (kyR b)=aZ (kyL a) (kyL b):=by
 unfold kyR kyL aZ;have e:(Sum.inl (1+tot a.seen):Key)=.inl (1+tot b.seen)↔(Sum.inl (tot a.seen):Key)=.inl (tot b.seen):=by
  simp
 by_cases c:(Sum.inl (tot a.seen):Key)=.inl (tot b.seen)
 ·rw[if_pos c,if_pos (e.mpr c)]
 ·rw[if_neg c,if_neg (λz=>c (e.mp z))];unfold keyLt;simp
theorem KR(a b:Dd)(e:kyR a=kyR b):a.nm=b.nm:=by
 unfold kyR at e;simp at e;exact Prod.ext e.2.1 e.2.2
theorem ID(xs:List Dd):oU (xs.map kyR)=true:=by
 cases xs with
 |nil=>rfl
 |cons a r=>
  rw[P0];unfold oU;rw[PZ];refine⟨rfl,Qf.mpr λz hz=>?_⟩;obtain⟨q,_,rfl⟩:=Qc.mp hz;rfl
theorem Gi(d:Dd)(hS:d.seen.length<=100)(h:PH)(Q:PV->PH->Prop)(k:∀h',Ext h h'->Q (tP (kyR d)) h'):(pA [dP d] h).W Q:=by
 refine bG ?_;have hc:=wR (js:=[none,none]) (tg:=gTp 2 (gCn (gN 0) (gCn (gN 1) gNl))) (tst:=mI) (elt:=mV 1) (m:=aB vAt (mV 0) (mC (.int 1))) (δ:=[some (dP d)]) (h:=h) (h1:=h) (ys:=d.seen) (emb:=pv)
  (λq=>some (.int q.2)) (by simp[dP1,AE]) (by omega) (λq hq=>⟨[some (.str q.1),some (.int q.2)],by simp[fQ,pv],λh3 _=>⟨rfl,by simp⟩⟩)
 have es:d.seen.filterMap (λq=>some (PV.int q.2))=(d.seen.map (·.2)).map PV.int:=by rw[filterMap_some,Qw];rfl
 rw[es]at hc;have gs:(h++[MO.lst ((d.seen.map (·.2)).map PV.int)])[h.length]?=some (.lst ((d.seen.map (·.2)).map PV.int)):=aF;have xs:Ext h (h++[MO.lst ((d.seen.map (·.2)).map PV.int)]):=Ext.app _ _;have vs:=tV gs;generalize h.length=l at hc gs vs;generalize h++[MO.lst ((d.seen.map (·.2)).map PV.int)]=hA at hc gs xs vs;unfold uH;simp[hc,vs,dP0,pv0,pv1];exact k _ xs
def BI(h:PH)(ns:List Int)(hs:List Str)(lh la:Nat)(q:Nat)(δ:Ev)(h':PH):Prop:=∃D:Seen,Ext h h'/\h'[h.length]?=some (.dK (emb D))/\D.length<=q/\(∀w∈hs.take q,∃m,look D w=some m/\0<=m)/\∃x4,δ=[some (.fl (ns.map PV.int)),some (.ref lh),some (.ref la),some (.ref h.length),x4,none,none,none,none,none,none]
theorem Gj(ns:List Int)(hl:ns.length<=63):∃c:Int,∀(h:PH),∃l1 h1,kO (.fl (ns.map PV.int)) (.ref h.length) (h++[MO.lst [PV.int 0]])=.ok (.ref l1) h1/\Ext h h1/\vIx (.ref l1) (.int 0) h1=.ok (.int c) h1:=by
 obtain⟨c,ec⟩:∃c:Int,atI (ns.map PV.int++[.int 0]) 0=some (.int c):=by
  cases ns with
  |nil=>exact⟨0,rfl⟩
  |cons n r=>exact⟨n,aR (i:=0) (by simp)⟩
 refine⟨c,λh=>?_⟩;have e0:(h++[MO.lst [PV.int 0]])[h.length]?=some (.lst [PV.int 0]):=aF;have e1:=DK (xs:=ns.map PV.int) e0 (by simp;omega);exact⟨_,_,e1,(Ext.app _ _).trans (Ext.app _ _),by rw[cH aF,ec];rfl⟩
theorem Gk(ns:List Int)(hl:ns.length<=63)(h0:PH)(Q:PV->PH->Prop)(k:∀ds l h',Ext h0 h'->h'[l]?=some (.lst (ds.map dP))->RD ds->ds.length<=50->Q (.ref l) h'):(zG [.fl (ns.map PV.int)] h0).W Q:=by
 obtain⟨c,fc⟩:=Gj ns hl;refine bG ?_;unfold zF;rw[aD];obtain⟨l1,h1,e1,x1,v1⟩:=fc h0;simp[e1,v1];refine Gf c h1 _ λhs lh h2 x2 gh l3 lz=>?_;refine now ?_;rw[aD];obtain⟨l1',h3,e3,x3,v3⟩:=fc h2;simp[e3,v3];refine BG c h3 _ λas la h4 x4 ga a3=>?_;have OZ:=x1.trans (x2.trans (x3.trans x4));have qk:=(x3.trans x4) _ _ gh;clear e1 v1 e3 v3 x1 x2 x3 x4 gh;refine now ?_;rw[aD];simp;have gm:(h4++[MO.dK []])[h4.length]?=some (.dK (emb [])):=aF;have x5:Ext h4 (h4++[MO.dK []]):=Ext.app _ _;generalize h4++[MO.dK []]=h5 at gm x5;refine now ?_;rw[aD];refine iW (n:=lh) (xs:=hs.map PV.str) (h1:=h5) (BI h4 ns hs lh la) (by simp) (x5 _ _ qk) ⟨[],x5,gm,PD _,(λw hw=>nomatch hw),_,rfl⟩ (λq δ h' _ i=>let ⟨_,x,_⟩:=i;x _ _ qk) ?_ ?_
 ·rintro q y δ h' hy ⟨D,x,gm,lD,hm,x4,rfl⟩;rw[PQ]at hy;obtain⟨w,hw,rfl⟩:=Qa.mp hy;have hq:q<hs.length:=(Pv.mp hw).1;refine⟨_,rfl,?_⟩;unfold qK;have kx:gG (.ref h4.length) (.str w) (.int 0) h'=some (h'.set h4.length (.dK (emb (dput D w 0)))):=by
   rw[Cm gm (by unfold emb;rw[PC];omega),Cp]
  simp;refine⟨_,kx,dput D w 0,x.setN (PD _),bH gm,Qb Cq (by omega),λu hu=>?_,_,rfl⟩;rw[pI]
  by_cases z:u=w
  ·rw[if_pos z];exact⟨0,rfl,by omega⟩
  ·rw[if_neg z];rw[QP,hw,Ql]at hu;rcases hu with hu|hu
   ·exact hm u hu
   ·exact(z (by simpa using hu)).elim
 ·rintro δ h' ⟨D,x,gm,lD,hm,x4,rfl⟩;rw[PC]at lD;rw[PC,RF]at hm;refine now ?_;rw[aD];simp;have qm:Ext h' (h'++[MO.lst []]):=Ext.app _ _;have gd:(h'++[MO.lst []])[h'.length]?=some (.lst (([]:List Dd).map dP)):=aF;have hlm:=(Pv.mp gm).1;have wz:=qm _ _ gm;have u0:(h'++[MO.lst []]).length=h'.length+1:=by simp
  have vd:=x.trans qm;generalize h'++[MO.lst []]=h6 at qm gd wz u0 vd;refine now ?_;rw[aD];have gc:(h6++[MO.lst ((cN ns none (some 50)).map PV.int)])[h6.length]?=some (.lst ((cN ns none (some 50)).map PV.int)):=aF;have x5:Ext h6 (h6++[MO.lst ((cN ns none (some 50)).map PV.int)]):=Ext.app _ _;have lc:(cN ns none (some 50)).length<=50:=by simp[cN,HT.sIx];omega
  have p0:DJ h4 ns hs as (cN ns none (some 50)) lh la h4.length h'.length h6.length 0 [some (.fl (ns.map PV.int)),some (.ref lh),some (.ref la),some (.ref h4.length),x4,some (.ref h'.length),none,none,none,none,none] (h6++[MO.lst ((cN ns none (some 50)).map PV.int)]):=⟨D,[],vd.trans x5,x5 _ _ wz,x5 _ _ gd,gc,⟨⟨List.nodup_nil,λd hd=>nomatch hd⟩,by omega,hm,λd hd=>nomatch hd⟩,PD _,_,_,_,_,_,_,rfl⟩;have o6:mSl (mV 0) kE (mP (mC (.int 50))) [some (.fl (ns.map PV.int)),some (.ref lh),some (.ref la),some (.ref h4.length),x4,some (.ref h'.length),none,none,none,none,none] h6=.ok (.ref h6.length) (h6++[MO.lst ((cN ns none (some 50)).map PV.int)]):=by simp[lL]
  generalize h6++[MO.lst ((cN ns none (some 50)).map PV.int)]=h7 at gc p0 o6;generalize h6.length=l5 at gc p0 o6 u0;generalize cN ns none (some 50)=cs at gc p0 o6 lc;refine iW (n:=l5) (xs:=cs.map PV.int) (h1:=h7) (DJ h4 ns hs as cs lh la h4.length h'.length l5) o6 gc p0 (λq δ h' _ i=>let ⟨_,_,_,_,_,g,_⟩:=i;g) ?_ ?_
  ·rintro q y δ h8 hy i;rw[PQ]at hy;obtain⟨c,hc,rfl⟩:=Qa.mp hy;have hq:q<cs.length:=(Pv.mp hc).1;exact⟨_,rfl,DR lz (by omega) qk ga l3 a3 (by omega) i λ_ _ z=>z⟩
  ·rintro δ h8 ⟨D,ds,x6,gm,gd,gc,mi,u7,x3,x5,x6',x7,x8,x9,rfl⟩;rw[PC]at u7;refine now ?_;simp;exact k ds _ _ (OZ.trans x6) gd mi.rd (by omega)
def DS(os:List Dd)(vs:List PV):Prop:=vs.length=os.length/\∀(i:Nat) d,os[i]?=some d->vs[i]?=some (.tup [pv d.nm,iL os i d])
variable{vs ws:List PV}
theorem AM(a:DS os vs)(b:DS os ws):vs=ws:=by
 apply Ro;intro i
 by_cases hi:i<os.length
 ·rw[a.2 i _ (Qo hi),b.2 i _ (Qo hi)]
 ·have h1:=a.1;have h2:=b.1;rw[Rz (by omega),Rz (by omega)]
theorem zS(a:DS os vs):vs.all (PV.pl 39)=true:=by
 rw[Qf];intro x hx;obtain⟨i,hi,e⟩:=SR.mp hx;have ho:i<os.length:=by have:=a.1;omega
 have h1:=a.2 i _ (Qo ho);rw[Qo hi,e]at h1;cases h1
 have h2:(iL os i os[i]).pl 38=true:=by
  unfold iL;split
  ·rfl
  ·split <;> rfl
 have h3:(pv os[i].nm).pl 38=true:=rfl
 show[pv os[i].nm,iL os i os[i]].all (PV.pl 38)=true
 simp[h2,h3]
variable{l2:Nat}
theorem KS(wg:∀d∈os,Wg d)(lo:os.length<=50)(g:h[l2]?=some (.lst (os.map dP))){d:Dd}(hd:os[i]?=some d)(k:∀h',Ext h h'->Q (.tup [pv d.nm,iL os i d]) h'):(bK (aA (aB vAt (aB vAt (mV 1) (mV 0)) (mC (.int 0))) (aA (aL 2 uK (aA (mV 1) (aA (mV 0) aC))) aC)) [some (.int i),some (.ref l2)] h).W Q:=by
 have ei:atI (os.map dP) (i:Int)=some (dP d):=aR (by rw[PQ,hd];rfl);obtain⟨v,h1,e1,rfl,x1⟩:=jV (Iy wg lo g hd (Q:=λv h'=>v=iL os i d/\Ext h h') λh' x=>⟨rfl,x⟩);have a1:aB vAt (aB vAt (mV 1) (mV 0)) (mC (.int 0)) [some (.int i),some (.ref l2)] h=.ok (pv d.nm) h:=by simp[cH g,ei,dP0]
 have a2:aL 2 uK (aA (mV 1) (aA (mV 0) aC)) [some (.int i),some (.ref l2)] h=.ok (iL os i d) h1:=by
  have hr:aA (mV 1) (aA (mV 0) aC) [some (.int i),some (.ref l2)] h=.ok [.ref l2,.int i] h:=by simp
  rw[oQ,hr,Rs.bind_ok,if_pos (show[PV.ref l2,PV.int (i:Int)].length=2 from rfl),e1]
 rw[Hx,tS,a1,Rs.bind_ok,tS,a2,Rs.bind_ok,C7,Rs.bind_ok,Rs.bind_ok,Rs.bind_ok,if_pos (by simp),rV];exact k _ x1
theorem N'(e:ms δ h=.ok [.int j] h)(hj:-4611686018427387904<=j/\j<4611686018427387904):iG ms δ h=.ok ⟨upTo 0 j.toNat,λ_=>true⟩ h:=by
 unfold iG;rw[e];have jk:-(2 ^ 62)<=j/\j<2 ^ 62:=hj;simp only[Rs.bind_ok,C3,if_pos jk]
theorem KU(e:ms δ h=.ok [.int n] h)(hn:n<1000):iG ms δ h=.ok ⟨upTo 0 n,λ_=>true⟩ h:=N' e (by omega)
theorem main(ns:List Int)(hl:ns.length<=63):∃h,FG [.fl (ns.map PV.int)] []=.ok (.bl true) h:=by
 have w:(FG [.fl (ns.map PV.int)] []).W λp _=>p=.bl true:=by
  refine bG ?_;unfold FF;rw[aD];simp;refine Gk ns hl _ _ λds l1 h1 x1 g1 rd ld=>?_;refine now ?_;rw[aD];obtain⟨v,h2,e2,os,l2,rfl,x2,g2,pm,br⟩:=jV (yY (f:=pA) (b:=false) (x:=.ref l1) (h:=h1) (key:=kyR) (emb:=dP) (xs:=ds) (S:=shape [.inl 0,.inr "",.inl 0]) (Q:=λv h'=>∃os l,v=.ref l/\Ext h1 h'/\h'[l]?=some (.lst (os.map dP))/\os.Perm ds/\os.Pairwise (λa b=>aZ (kyR b) (kyR a)=false)) (uD g1) (by omega) (ID ds) (λ_ _=>rfl) (uT kyR KR rd.nd) (λd hd h Q kk=>Gi d (rd.ok d hd).wf.len h Q kk) λos h' x p ho=>⟨os,_,rfl,x.trans (Ext.app _ _),aF,p,ho⟩);have rk:uU os:=br.imp λ{a b} z=>by rw[<-IC];exact z
  have nd:(os.map (·.nm)).Nodup:=(pm.map _).nodup_iff.mpr rd.nd;have lo:os.length<=50:=by rw[pm.length_eq];exact ld
  have wg:∀d∈os,Wg d:=λd hd=>rd.ok d (pm.mem_iff.mp hd);have u5:∀hs:List Dd,(∀d,d∈hs↔d∈ds)->hs.length<=200->Dl os hs:=λhs m l=>⟨λd=>(m d).trans pm.mem_iff.symm,nd,rk,λd hd=>(wg d hd).wf,lo,l⟩;simp[e2];refine now ?_;rw[aD];have ll:=oR g2;rw[PC]at ll;have er:iG (aA (mCB tR (aA (mV 2) aC)) aC) [some (.fl (ns.map PV.int)),some (.ref l1),some (.ref l2),none,none,none] h2=.ok ⟨upTo 0 os.length,λ_=>true⟩ h2:=KU (by simp[ll]) (by omega);rw[C6];refine Iu (λi v=>∀d,os[i]?=some d->v=.tup [pv d.nm,iL os i d]) er (λ_ _=>rfl) (by rw[bT];omega) (λi x hx=>?_) λl3 h3 vs x3 b3 lv g3 OU=>?_
  ·have hi:i<os.length:=by have:=(Pv.mp hx).1;rw[bT]at this;exact this
   rw[oO _ _ _ hi]at hx;cases hx
   have hd:os[i]?=some os[i]:=Qo hi;refine⟨[some (.int i),some (.ref l2)],by simp[fQ],λh xh Q kk=>?_⟩;exact KS wg lo (xh _ _ g2) hd λh' x'=>kk _ _ x' λd e=>by rw[hd]at e;cases e;rfl
  ·rw[bT]at lv;have yl:DS os vs:=⟨lv,λi d hi=>by
    have hl:=(Pv.mp hi).1;have:vs[i]?=some vs[i]:=Qo (by omega);rw[this,OU i _ this d hi]⟩
   have xg:=(x2.trans x3) _ _ g1;refine now ?_;rw[aD];have gc:(h3++[MO.lst ((cN ns (some (-1)) none).map PV.int)])[h3.length]?=some (.lst ((cN ns (some (-1)) none).map PV.int)):=aF;have x4:Ext h3 (h3++[MO.lst ((cN ns (some (-1)) none).map PV.int)]):=Ext.app _ _;have l4:=oR (x4 _ _ xg);rw[PC]at l4;simp(disch:=omega) [lL,tV gc,l4];have pw:=x4 _ _ xg;have vm:=x4 _ _ g3;generalize h3++[MO.lst ((cN ns (some (-1)) none).map PV.int)]=h4 at pw vm;obtain⟨m,em⟩:∃m:Nat,(cN ns (some (-1)) none).sum/4%(ds.length+1)=(m:Int):=⟨((cN ns (some (-1)) none).sum/4%(ds.length+1)).toNat,by
    have:=Int.emod_nonneg ((cN ns (some (-1)) none).sum/4) (b:=(ds.length:Int)+1) (by omega);omega⟩
   have hm:m<=ds.length:=by
    have:=Int.emod_lt_of_pos ((cN ns (some (-1)) none).sum/4) (b:=(ds.length:Int)+1) (by omega);omega
   rw[em];refine now ?_;rw[aD];have s1:=sD (lo:=some (m:Int)) (hi:=none) pw;rw[lL,AL hm]at s1;have y1:Ext h4 (h4++[MO.lst ((ds.drop m).map dP)]):=Ext.app _ _;have k1:(h4++[MO.lst ((ds.drop m).map dP)])[h4.length]?=some (.lst ((ds.drop m).map dP)):=aF;generalize h4.length=p1 at s1 k1;generalize h4++[MO.lst ((ds.drop m).map dP)]=h5 at s1 y1 k1;have s2:=sD (lo:=none) (hi:=some (m:Int)) (y1 _ _ pw);rw[lL,Gb hm]at s2;have y2:Ext h5 (h5++[MO.lst ((ds.take m).map dP)]):=Ext.app _ _;have k2:(h5++[MO.lst ((ds.take m).map dP)])[h5.length]?=some (.lst ((ds.take m).map dP)):=aF;generalize h5.length=p2 at s2 k2;generalize h5++[MO.lst ((ds.take m).map dP)]=h6 at s2 y2 k2;have s3:=qC (y2 _ _ k1) k2 (by simp;omega);rw[<-Qq]at s3;have D1:=u5 (ds.drop m++ds.take m) (λd=>by
    rw[Ql,or_comm,<-Ql,RA]) (by rw[QU,List.length_drop,QK];omega)
   generalize ds.drop m++ds.take m=hC at s3 D1;have y3:Ext h6 (h6++[MO.lst (hC.map dP)]):=Ext.app _ _;have k3:(h6++[MO.lst (hC.map dP)])[h6.length]?=some (.lst (hC.map dP)):=aF;generalize h6.length=p3 at s3 k3;generalize h6++[MO.lst (hC.map dP)]=h7 at s3 y3 k3;have yy:=y1.trans (y2.trans y3);have mj:aA (aB bJ (mSl (mV 1) (mP (mV 4)) kE) (mSl (mV 1) kE (mP (mV 4)))) aC [some (.fl (ns.map PV.int)),some (.ref l1),some (.ref l2),some (.ref l3),some (.int m),none] h4=.ok [.ref p3] h7:=by simp[s1,s2,s3]
   rw[C6,oQ,mj,Rs.bind_ok,if_pos (show[PV.ref p3].length=1 from rfl)]
   refine AK D1 k3 λl8 us h8 x8 g8 lu fu=>?_;refine now ?_;have du:DS os us:=⟨lu,fu⟩;have eu:=AM du yl;subst eu;have xw:=(yy.trans x8) _ _ vm;have zq:=(yy.trans x8) _ _ pw;have i1:vH [.ref l8,.ty "list"] h8=.ok (.bl true) h8:=by rw[ET g8];rfl
   have e1:=yO g8 xw (zS du) (zS du);rw[decide_eq_true rfl]at e1;have e3:=DF zq;have x9:Ext h8 (h8++[MO.lst (ds.map dP).reverse]):=Ext.app _ _;have g9:(h8++[MO.lst (ds.map dP).reverse])[h8.length]?=some (.lst (ds.reverse.map dP)):=by rw[List.map_reverse];exact aF
   generalize h8.length=p9 at e3 g9;generalize h8++[MO.lst (ds.map dP).reverse]=h9 at e3 g9 x9;have D2:=u5 ds.reverse (λd=>List.mem_reverse) (by rw[List.length_reverse];omega);obtain⟨v10,h10,zg,t7,ws,rfl,de,se,dw⟩:=jV (AK D2 g9 (Q:=λv h'=>∃l ws,v=.ref l/\Ext h9 h'/\h'[l]?=some (.lst ws)/\DS os ws) λt7 ws h10 de se lw fw=>⟨t7,ws,rfl,de,se,lw,fw⟩);have ew:=AM dw du;subst ew;have e4:=yO se ((x9.trans de) _ _ xw) (zS dw) (zS dw);rw[decide_eq_true rfl]at e4;have hr:aA (mUn oZ (mV 1)) aC [some (.fl (ns.map PV.int)),some (.ref l1),some (.ref l2),some (.ref l3),some (.int m),some (.ref l8)] h8=.ok [.ref p9] h9:=by simp[e3]
   have hm:aL 1 pD (aA (mUn oZ (mV 1)) aC) [some (.fl (ns.map PV.int)),some (.ref l1),some (.ref l2),some (.ref l3),some (.int m),some (.ref l8)] h8=.ok (.ref t7) h10:=by
    rw[oQ,hr,Rs.bind_ok,if_pos (show[PV.ref p9].length=1 from rfl),zg]
   simp[-oQ,i1,e1,hm,e4]
 obtain⟨p,h,e,rfl⟩:=jV w;exact⟨h,e⟩
end K73
namespace K73
open PySem L2
def top(i:Nat):Stmt:=PySem.Challenge.pw_copymeet_k73_outdone_by_who_had_seen.main.body.getD i (.Pass ⟨0,0,0,0⟩)
abbrev bsL:List Str:=["range","sorted","len","max","tuple","sum","list","str","isinstance","reversed"]
abbrev cC(w:World)(K:Py)(cl:Str->Option Addr):MC:=⟨K,cl,bsL,λ_ _ _=>False,w⟩
abbrev clF(b5 bj d9 cw aq aw:Addr):Str->Option Addr:=λz=>if z=("Count" : Str) then some b5 else if z=("Choice" : Str) then some bj else if z=("Bag" : Str) then some d9 else if z=("Tree" : Str) then some cw else if z=("Folding" : Str) then some aq else if z=("Undoing" : Str) then some aw else none
theorem clI{p:Addr->Prop}{b5 bj d9 cw aq aw a:Addr}{c:Str}(hc:clF b5 bj d9 cw aq aw c=some a)(i8:p b5)(ia:p bj)(o1:p d9)(kb:p cw)(fi:p aq)(fe:p aw):p a:=by
 dsimp only[clF]at hc;split at hc
 ·cases hc
  exact i8
 split at hc
 ·cases hc
  exact ia
 split at hc
 ·cases hc
  exact o1
 split at hc
 ·cases hc
  exact kb
 split at hc
 ·cases hc
  exact fi
 split at hc
 ·cases hc
  exact fe
 cases hc
abbrev fL:List Str:=["failed","leaves","made","numbers","placers","signs_left","standing","total","tree","undone","writers"]
def NfX(K:Py)(A:Addr):List Str->Prop
 |[]=>True
 |f::r=>QE K (.ref A) f=some none/\NfX K A r
theorem NfX.at{K:Py}{A:Addr}{f:Str}:∀{l:List Str},NfX K A l->f∈l->QE K (.ref A) f=some none
 |_::_,h,.head _=>h.1
 |_::_,h,.tail _ m=>NfX.at h.2 m
theorem anE{a b c:Prop}(h:a/\b)(f:a->b->c):c:=f h.1 h.2
def tgN:Expr->List Str
 |.Name x _=>[x]
 |.Tuple es _ _=>es.flatMap λe=>match e with
  |.Name x _=>[x]
  |.Tuple gs _ _=>gs.flatMap λe=>match e with
   |.Name x _=>[x]
   |_=>[]
  |_=>[]
 |_=>[]
def mkN(o:List Str):List (Option Nat)->List Str->List Str
 |some j::r,xs=>o.getD j "" :: mkN o r xs
 |none::r,x::xs=>x::mkN o r xs
 |_,_=>[]
def ndB:List Str->Bool
 |[]=>true
 |x::r=>r.all (λy=>!decide (x=y))&&ndB r
theorem kY:∀{l:List Str},ndB l=true->l.Nodup
 |[],_=>.nil
 |x::r,h=>by
  simp only[ndB,PZ,Qf]at h;exact Rv.2 ⟨λm=>by simpa using h.1 x m,kY h.2⟩
section
variable{C:MC}{k i:Nat}{X:Cx}{elt iter tg:Expr}{ifs:List Expr}{sc os:Scope}{pos pos' da:Pos}{oN:List Str}{js:List (Option Nat)}{mi:Mi}{g:Mg}{tt:Ev->PH->Rs Bool}{me:Me}{x:Str}
theorem Ox(e:X.env.scope=os)(e':X.N=oN)(h:iO os oN sc (mkN oN js (tgN tg)) js=true)(nd:ndB (mkN oN js (tgN tg))=true)(hi:SI C k X tg iter mi)
  (hg:∀a b c d,(X.comp sc (mkN oN js (tgN tg)) a b c d).N.Nodup->SG C k (X.comp sc (mkN oN js (tgN tg)) a b c d) tg g/\STs C k (X.comp sc (mkN oN js (tgN tg)) a b c d) ifs tt/\SE C k (X.comp sc (mkN oN js (tgN tg)) a b c d) elt me)
  (hs:∀x,Rb iter X.env x=pure x:=by intro _;rfl):SE C k X (.ListComp elt [⟨tg,iter,ifs,0⟩] sc pos) (bV js mi g tt me):=Kf e e' h hi (λa b c d=>(hg a b c d (kY nd)).1) (λa b c d=>(hg a b c d (kY nd)).2.1) (λa b c d=>(hg a b c d (kY nd)).2.2) hs
theorem Oy(nd:X.N.Nodup)(h1:X.N[i]?=some x)(h2:X.env.scope.names.lookup x=some .local)(e:X.env.scope=os)(e':X.N=oN)(h:iO os oN sc (mkN oN js (tgN tg)) js=true)(ip:ndB (mkN oN js (tgN tg))=true)(hi:SI C k X tg iter mi)
  (hg:∀a b c d,(X.comp sc (mkN oN js (tgN tg)) a b c d).N.Nodup->SG C k (X.comp sc (mkN oN js (tgN tg)) a b c d) tg g/\STs C k (X.comp sc (mkN oN js (tgN tg)) a b c d) ifs tt/\SE C k (X.comp sc (mkN oN js (tgN tg)) a b c d) elt me)
  (oa:S8 (.ListComp elt [⟨tg,iter,ifs,0⟩] sc pos) (some (.Name x pos')) da.line X.env=pure true:=by rfl) (hs:∀x,Rb iter X.env x=pure x:=by intro _;rfl):SSt C k X (.Assign [.Name x pos'] (.ListComp elt [⟨tg,iter,ifs,0⟩] sc pos) da) (aS i (bV js mi g tt me)):=Dn nd h1 h2 e e' h hi (λa b c d=>(hg a b c d (kY ip)).1) (λa b c d=>(hg a b c d (kY ip)).2.1) (λa b c d=>(hg a b c d (kY ip)).2.2) oa hs
end
def fsB(N:List Str)(n:Nat)(sc:Scope):Bool:=(match sc.kind with|.function=>true|_=>false) && !sc.isCoroutine && !sc.isGenerator&&ndB N&&decide (n<=N.length)&&(N.take n).all (λx=>match sc.names.lookup x with|some .local=>true|some .cell=>true|_=>false)&&sc.names.all λy=>match y.2 with|.free=>false|_=>true
theorem Gm{N:List Str}{n:Nat}{sc:Scope}(h:fsB N n sc=true):nP N (N.take n) sc/\(N.take n).length=n:=by
 simp only[fsB,PZ,Bool.not_eq_true',Qf,decide_eq_true_eq]at h;obtain⟨⟨⟨⟨⟨⟨h1,h2⟩,h3⟩,h4⟩,h5⟩,h6⟩,h7⟩:=h;have hl:(N.take n).length=n:=by rw[QK];omega
 refine⟨⟨?_,h2,h3,kY h4,by rw[hl],λx m=>?_,λy m e=>?_⟩,hl⟩
 ·split at h1
  ·assumption
  ·cases h1
 ·have:=h6 x m;split at this
  ·exact .inl (by assumption)
  ·exact .inr (by assumption)
  ·cases this
 ·have:=h7 y m;rw[e]at this;cases this
def FnX(K:Py)(f:Addr)(nm qual:Str)(st:Stmt):Prop:=∃oc kV doc pm cdv ct od an osl,K.lookup f=some ⟨oc,od,.func (Rk nm qual (dY st) (bW st) (aP st) .none kV doc pm an cdv ct),osl⟩/\Tf K cdv qual=true/\Rr K (.ref f)=true
def MtX(K:Py)(A:Addr)(nm qual:Str)(st:Stmt):Prop:=∃f,QE K (.ref A) nm=some (some (.ref f))/\PySem.W.isFn K (.ref f)=true/\FnX K f nm qual st
def DfX(K:Py)(nm:Str)(st:Stmt):Prop:=∃f,Tg K QR nm=some (some (.ref f))/\FnX K f nm nm st
def DsL(K:Py):List (Str×Nat)->Prop
 |[]=>True
 |(x,i)::r=>DfX K x (top i)/\DsL K r
def fA(K:Py)(x:Str):Addr:=match Tg K QR x with
 |some (some (.ref f))=>f
 |_=>0
def mA(K:Py)(A:Addr)(x:Str):Addr:=match QE K (.ref A) x with
 |some (some (.ref f))=>f
 |_=>0
def dA(K:Py)(a:Addr):Rl:=match K.lookup a with
 |some ⟨_,_,.func f,_⟩=>f
 |_=>Rk "" "" (dY (top 0)) [] (aP (top 0)) .none .none .none .none none .none .none
theorem DsL.at{K:Py}{x:Str}{i:Nat}:∀{l:List (Str×Nat)},DsL K l->(x,i)∈l->DfX K x (top i)
 |_::_,h,.head _=>h.1
 |_::_,h,.tail _ m=>DsL.at h.2 m
abbrev BdX(nm qual:Str)(st:Stmt)(n:Nat)(ps:List Str):Prop:=∀(kV doc pm:Value)(an:Option Addr)(cdv ct:Value)(us:List Value),us.length=n->bindArgs (Rk nm qual (dY st) (bW st) (aP st) .none kV doc pm an cdv ct) ⟨us,[]⟩=pure (ps.zip us)
structure ClX(K:Py)(A:Addr)(nm:Str)(fs:List Str):Prop where
 n:Tg K QR nm=some (some (.ref A))
 pg:SY K A Str.empty=true
 hd:PySem.W.hasDictIn K A=true
 po:PySem.W.plainOver K A=true
 sa:QE K (.ref A) "__setattr__" = some (some (.builtin "object.__setattr__"))
 mx:PySem.W.makesIn K A=true
 kc:Rr K (.ref A)=true
 nf:NfX K A fs
theorem ClX.cls9{K:Py}{A:Addr}{nm:Str}{fs:List Str}(q:ClX K A nm fs):Cls K A:=⟨q.pg,q.hd,q.po,q.sa⟩
structure ClZ(w:World)(K:Py)(mg:Str->Option Value)(cl:Str->Option Addr)(c:Str)(A:Addr):Prop where
 cl:cl c=some A
 hc:Cls K A
 mg:mg c=some (.ref A)
 mx:PySem.W.makesIn K A=true
 kc:Rr K (.ref A)=true
theorem mtN{C:MC}{k:Nat}{X:Cx}{m c:Str}{n j:Nat}{a g:Addr}{fd:Rl}{ps:List Str}{f:Fn}{tb:Str->Option Fn}(h:(C.cl c=some a/\Cls C.K a)/\CK C.K a m g/\cE X.prog X.w C.K X.mg X.base CX0 j g fd ps (spM C (n+1) f)/\Binds C.K fd ps [])(h6:j<=k)(r:AB C X k m n tb):AB C X k m n (λz=>if z=c then some f else tb z):=HP h.1.1 h.1.2 h.2.1 h6 h.2.2.1 h.2.2.2 r
def MsL(K:Py)(A:Addr):List (Str×Str×Nat×Nat)->Prop
 |[]=>True
 |(x,q,i,j)::r=>MtX K A x q (inClass (top i) j)/\MsL K A r
abbrev dL:List (Str×Nat):=[("_law_drawn",46),("_law_hands",47),("_law_amounts",48),("_law_act",49),("_law_deeds",50),("_law_rank",51),("_law_kind",53),("_law_idle",54),("_law_covers",52),("_law_fate",55),("empty",40),("covers",3),("place_of",21),("stand_of",36),("leaf_of",32),("kind_for",33),("fates_in_force",43),("stamp",4),("rank",5),("in_order",6),("name_of",8),("taker_of",9),("takers",10),("in_force",12),("taken_by",11),("fates",44),("law",56)]
abbrev Cz:List (Str×Str×Nat×Nat):=[("__init__","Count.__init__",15,0),("hear","Count.hear",15,1)]
abbrev AN:List (Str×Str×Nat×Nat):=[("__init__","Choice.__init__",16,0),("hear","Choice.hear",16,1)]
abbrev J1:List (Str×Str×Nat×Nat):=[("__init__","Bag.__init__",17,0),("hear","Bag.hear",17,1)]
abbrev Gn:List (Str×Str×Nat×Nat):=[("__init__","Tree.__init__",35,0),("fill","Tree.fill",35,12),("hear","Tree.hear",35,1),("hear_make","Tree.hear_make",35,2),("kind_of","Tree.kind_of",35,6),("takes","Tree.takes",35,4)]
abbrev xM:List (Str×Str×Nat×Nat):=[("__init__","Folding.__init__",39,0),("add_leaf","Folding.add_leaf",39,1),("hear","Folding.hear",39,2),("hear_tree","Folding.hear_tree",39,3)]
abbrev xO:List (Str×Str×Nat×Nat):=[("__init__","Undoing.__init__",42,0),("hear","Undoing.hear",42,1),("undo_numbers","Undoing.undo_numbers",42,2)]
section
variable{P:Program}{w:World}{K:Py}{mg:Str->Option Value}{base:Heap}{cl:Str->Option Addr}
variable(P w K mg base cl)
abbrev tC(j:Nat)(x:Str)(t:Nat)(N:List Str)(n:Nat)(m:Fn):Prop:=Def K mg x (top t) (fA K x) (dA K (fA K x)) (N.take n)/\cE P w K mg base CX0 j (fA K x) (dA K (fA K x)) (N.take n) (spM (cC w K cl) n m)
abbrev tM(c:Str)(A:Addr)(j:Nat)(x:Str)(N:List Str)(n:Nat)(m:Fn):Prop:=(cl c=some A/\Cls K A)/\CK K A x (mA K A x)/\cE P w K mg base CX0 j (mA K A x) (dA K (mA K A x)) (N.take n) (spM (cC w K cl) n m)/\Binds K (dA K (mA K A x)) (N.take n) []
abbrev tI(c:Str)(A:Addr)(j:Nat)(N:List Str)(n:Nat)(m:Fn):Prop:=cl c=some A/\Mk K A (mA K A "__init__")/\cE P w K mg base CX0 j (mA K A "__init__") (dA K (mA K A "__init__")) (N.take n) (spM (cC w K cl) n m)/\mg c=some (.ref A)/\Binds K (dA K (mA K A "__init__")) (N.take n) []
variable{P w K mg base cl}
theorem mbL{x:Str}(h:x∈bsL:=by decide +kernel):x∈(cC w K cl).bs:=h
structure ZZ(P:Program)(base:Heap)(w:World)(K:Py)(mg:Str->Option Value)(cl:Str->Option Addr)(A_Count A_Choice A_Bag A_Tree A_Folding A_Undoing bZ kZ:Addr):Prop where
 hbn:∀x∈bsL,mg x=none
 XG:∃h:Heap,K.In h/\h.Ns QR mg
 ds:DsL K dL
 z_Count:ClZ w K mg cl "Count" A_Count
 m_Count:MsL K A_Count Cz
 z_Choice:ClZ w K mg cl "Choice" A_Choice
 m_Choice:MsL K A_Choice AN
 z_Bag:ClZ w K mg cl "Bag" A_Bag
 m_Bag:MsL K A_Bag J1
 z_Tree:ClZ w K mg cl "Tree" A_Tree
 m_Tree:MsL K A_Tree Gn
 z_Folding:ClZ w K mg cl "Folding" A_Folding
 m_Folding:MsL K A_Folding xM
 z_Undoing:ClZ w K mg cl "Undoing" A_Undoing
 m_Undoing:MsL K A_Undoing xO
 MG_KIND_FOR:mg "KIND_FOR" = some (.ref bZ)
 GT_KIND_FOR:N4 (cC w K cl) bZ [("add","count"),("choose","choice"),("put","bag"),("take","bag"),("write","text"),("cut","text"),("mark","text"),("clear","text")]
 MG_ROOT:mg "ROOT" = some (.ref kZ)
 GT_ROOT:N1 K kZ [.str "",.int (0)]
 ff:∀f∈fL,DC (cC w K cl) f
variable{A_Count A_Choice A_Bag A_Tree A_Folding A_Undoing bZ kZ:Addr}(Z:ZZ P base w K mg cl A_Count A_Choice A_Bag A_Tree A_Folding A_Undoing bZ kZ)
include Z
theorem dfM{k t:Nat}{x:Str}{N:List Str}{n:Nat}{body:Ms}(c:fsB N n (aP (top t))=true)(b:BdX x x (top t) n (N.take n))(d:(x,t)∈dL)
  (h:∀f cdv A outer s H E,N.Nodup->SSs (cC w K cl) k (vB CX0 P w K mg base N x (aP (top t)) f cdv A outer s H E).nox (bW (top t)) body):tC P w K mg base cl (k+1) x t N n (mFn N.length body):=by
 obtain⟨f,a,_,_,_,_,_,_,_,_,_,l,o,p⟩:=Z.ds.at d;obtain⟨_,X,G⟩:=Z.XG;obtain⟨S,e⟩:=Gm c;have D:=Def.mk' X G a l o p (ps:=N.take n) (by rwa[e]);have F:=IV (C:=cC w K cl) (P:=P) (mg:=mg) (base:=base) (λ_ _ _ h=>h) Z.hbn D.fn S λcdv A outer s H E=>h f cdv A outer s H E S.nd;rw[e]at F;have q:fA K x=f:=by rw[fA,a]
 rw[tC,q,dA,l];exact⟨D,F⟩
theorem fdL{f:Str}(h:f∈fL:=by decide +kernel):DC (cC w K cl) f:=Z.ff f h
theorem mtM{k n:Nat}{A:Addr}{c x q:Str}{st:Stmt}{N:List Str}{body:Ms}(z:ClZ w K mg cl c A)(y:MtX K A x q st)(c':fsB N n (aP st)=true)(b:BdX x q st n (N.take n))
  (h:∀f cdv A outer s H E,N.Nodup->SSs (cC w K cl) k (vB CX0 P w K mg base N q (aP st) f cdv A outer s H E).nox (bW st) body):tM P w K mg base cl c A (k+1) x N n (mFn N.length body):=by
 obtain⟨f,a,i,_,_,_,_,_,_,_,_,_,l,o,p⟩:=y;have F:=B4 (st:=st) l o p;obtain⟨S,e⟩:=Gm c';have G:=IV (C:=cC w K cl) (P:=P) (mg:=mg) (base:=base) (λ_ _ _ h=>h) Z.hbn F S λcdv A outer s H E=>h f cdv A outer s H E S.nd;rw[e]at G;have r:mA K A x=f:=by rw[mA,a]
 rw[tM,r,dA,l];exact⟨⟨z.cl,z.hc⟩,⟨a,i,p⟩,G,F.binds (ps:=N.take n) (by rwa[e])⟩
theorem mkM{k n:Nat}{A:Addr}{c q:Str}{st:Stmt}{N:List Str}{body:Ms}(z:ClZ w K mg cl c A)(y:MtX K A "__init__" q st)(c':fsB N n (aP st)=true)(b:BdX "__init__" q st n (N.take n))
  (h:∀f cdv A outer s H E,N.Nodup->SSs (cC w K cl) k (vB CX0 P w K mg base N q (aP st) f cdv A outer s H E).nox (bW st) body):tI P w K mg base cl c A (k+1) N n (mFn N.length body):=by
 obtain⟨_,m,a,b'⟩:=mtM Z z y c' b h;exact⟨z.cl,⟨z.mx,m.at_,m.fn,z.kc⟩,a,z.mg,b'⟩
local macro_rules|`(tactic|ac_rfl)=>`(tactic|repeat' first|((with_reducible show SSs _ _ _ [_] _);refine Ka ?_)|exists SSt,(aS _ (bV _ _ _ _ _)),(Oy nd rfl rfl rfl rfl (by rfl) (by rfl) ?_ λ_ _ _ _ nd=>⟨?_,?_,?_⟩)|exists (gA _ 0 _ aC),(anE (by ac_nf) λc r=>anE r λm r=>anE r λg r=>anE r λq b=>HQ c m g q b)|exists (jB _ Bool.false _),(anE (by ac_nf) λD G=>HL D G ?_ (hb:=mbL))|exists (mV _),(LN _)|exists SA,(aA _ _),(K5 ?_ ?_)|exists (mC (PV.int _)),LO|exists SA,aC,Mb|exists SSs,(aG _ _),(Ht ?_ ?_)|exists (aB vAt _ _),(Ot ?_ ?_)|exists SG,(gN _),(K7 nd)|exists (mC (PV.str _)),LQ|exists SGs,(gCn _ _),(K8 ?_ ?_)|((with_reducible show SE _ _ _ (.BinOp _ _ _ _) (aB _ _ _));refine LR ?_ ?_ ?_)|exists ST,(aK (aB _ _ _)),(M1 ?_ ?_ ?_)|exists SSt,(aV _),(Mr ?_)|exists SSt,(aS _ _),(Mn nd ?_)|exists SSt,(aX _ _ _),(Ob ?_ ?_ ?_)|exists OpS,vEq,O6|exists (aL _ _ _),(anE (by ac_nf) λD G=>s_call D G ?_)|exists SSs,bP,K9|exists (bK _),(Mc ?_)|((with_reducible show SI _ _ _ _ _ (aU _));refine Mt ?_)|exists SG,(gTp _ _),(Ml ?_)|exists SGs,gNl,Mj|exists OpS,bJ,Kk|exists (eJ _),(Md ?_)|exists SSt,(cT _ _ _),(Mu ?_ ?_ ?_)|exists (mUn (bL _) _),(MZ (fdL Z) ?_)|exists OpS,eZ,LY|exists SSt,(cL _ _ _),(N0 (fdL Z) ?_ ?_)|exists cK,Hq|exists SSt,(kF _ _),(Mp ?_ ?_)|exists (fD _ _ _ _ _),(Ky ?_ ?_ ?_)|exists SSt,(kG _),(Mq ?_)|((with_reducible show ST _ _ _ (.BoolOp _ _ _) _);refine SW.t ?_)|exists SSt,(gW _ _ _),(KA ?_ ?_ ?_)|exists (mSl _ _ _),(O9 ?_ ?_ ?_)|exists SO,kE,K3|exists SO,(mP _),(K4 ?_)|exists SW,(jR _ _),(w_and ?_ ?_)|((with_reducible show SW _ _ _ (.BoolOp _ [_] _) _);refine K1 ?_)|exists (bV _ _ _ _ _),(Ox rfl rfl (by rfl) (by rfl) ?_ λ_ _ _ _ nd=>⟨?_,?_,?_⟩)|exists (mC (PV.bl _)),O1|exists OpS,yI,LW|exists (mMt isL (onL bA) _ _),(Oc PySem.F.plainAttrs_list PySem.F.slot_list_append PySem.F.type_list_append EO ?_ ?_)|exists OpS,vG,LV|exists SW,(tQ _ _),(w_or ?_ ?_)|exists OpS,kI,MR|((with_reducible show STs _ _ _ [_] _);refine Ke ?_)|exists STs,mI,Kd|((with_reducible show SE _ _ _ (.Compare _ _ _ _) (aB _ _ _));refine LS ?_ ?_ ?_)|exists ST,(lQ _),(M4 ?_)|exists (mC PV.non),LP|exists OpS,Di,LX|((with_reducible show SI _ _ _ _ _ (iG _));refine Kc ?_ (hb:=mbL))|((with_reducible show SW _ _ _ (.BoolOp _ [_] _) _);refine M5 ?_)|exists (mCB tR _),(oM Mf PyProof.Rows.Boot.«len» ?_ (hb:=mbL))|exists OpS,vNe,O7|exists (mUn _ _),(O2 ?_ ?_)|exists UnS,Ak,Mw|exists (mCB Ao _),(oM MP PyProof.Rows.Boot.«sum» ?_ (hb:=mbL))|exists (mIf _ _ _),(Ho ?_ ?_ ?_)|exists (mCB vH _),(oM yM PyProof.Rows.Boot.«isinstance» ?_ (hb:=mbL))|exists (mMt bO kJ _ _),(MS RL QF PySem.F.type_dict_get MT ?_ ?_)|exists OpS,Hl,LZ|exists OpS,wN,Ko|exists OpS,kO,HX|exists OpS,vLe,O5|exists (mC (PV.ty "str")),(EF PyProof.Rows.Boot.«str» (hb:=mbL))|exists OpS,kC,Hn|exists OpS,cY,F2|exists (wK _ _),(M7 ?_ ?_)|((with_reducible show SI _ _ _ _ _ (xC _));refine N3 ?_)|exists (mCB iY _),(oM F5 PyProof.Rows.Boot.«sorted» ?_ (hb:=mbL))|exists OpS,Bm,MQ|exists (mCB EL _),(oM Mh PyProof.Rows.Boot.«max» ?_ (hb:=mbL))|exists OpS,vGt,O4|exists (mCB pX _),(Am Hr PyProof.Rows.Boot.«tuple» ?_ (hb:=mbL))|exists SSt,Hs,Mm|exists (mCB wL _),(Am K6 PyProof.Rows.Boot.«list» ?_ (hb:=mbL))|exists SSt,(Cj _ _ _),(Fj (fdL Z) ?_ ?_)|exists (mC (.tup _)),(KB Z.MG_ROOT Z.GT_ROOT)|exists (mMt bO eY _ _),(MS RL Su PySem.F.type_dict_setdefault yV ?_ ?_)|exists (mUn (vGd _) _),(HZ Z.MG_KIND_FOR Z.GT_KIND_FOR ?_)|exists (gA _ _ _ _),(anE (by ac_nf) λc r=>anE r λm r=>anE r λg r=>anE r λq b=>Kz c m g q b ?_)|exists (zB _),(anE (by ac_nf) λD G=>HY D G)|((with_reducible show SI _ _ _ _ _ (uG _ _));refine KD _ (λ_=>⟨_,_,_,rfl⟩) ?_)|exists (An bO gX _),(IW RL PySem.F.slot_dict_items PySem.F.type_dict_items Fx ?_)|exists (An bO wW _),(IW RL PySem.F.slot_dict_values PySem.F.type_dict_values m_values ?_)|exists (jB _ _ _),(anE (by ac_nf) λD G=>Fd D G ?_ (hb:=mbL))|exists (mC (PV.ty "list")),(EF PyProof.Rows.Boot.«list» (hb:=mbL))|((with_reducible show SE _ _ _ (.BoolOp _ [_] _) _);refine M6 ?_)|exists (mUn oZ _),(DE ?_ mbL mbL)|exists ST,(aK _),(M0 ?_)|exists SSt,(qE _ _ _),(KG _ _ ?_)|exists SSt,cS,N5|((with_reducible show AB _ _ _ _ _ _);refine mtN (by ac_nf) (by decide) ?_)|((with_reducible show AB _ _ _ _ _ _);exact Kx)|unfold qF|unfold qG|unfold qH|unfold qK|unfold iI|unfold iJ|unfold uI|unfold jC|unfold uJ|unfold lY|unfold fE|unfold mU|unfold bM|unfold bY|unfold dR|unfold jL|unfold pB|unfold nB|unfold xF)
local macro_rules|`(tactic|and_intros)=>`(tactic|intro _ _ _ _ _ _ us hl;rcases us with _|⟨_,_|⟨_,_|⟨_,_|⟨_,_|⟨_,_|⟨_,_⟩⟩⟩⟩⟩⟩<;>first|rfl|cases hl)
local macro_rules|`(tactic|exists $e:ident)=>`(tactic|(refine dfM Z (by decide +kernel) (by and_intros) (by decide +kernel) λ_ _ _ _ _ _ _ nd=>?_;(conv=>arg 4;whnf);unfold $e;ac_rfl))|`(tactic|exists $a,$b,$c,$d:ident)=>`(tactic|(refine $a Z $b $c (by decide +kernel) (by and_intros) λ_ _ _ _ _ _ _ nd=>?_;(conv=>arg 4;whnf);unfold $d;ac_rfl))|`(tactic|exists $e,$f)=>`(tactic|((with_reducible show SE _ _ _ _ $e);refine $f))|`(tactic|exists $k,$e,$f)=>`(tactic|((with_reducible show $k _ _ _ _ $e);refine $f))
local macro_rules|`(tactic|ac_nf)=>`(tactic|first|exact IE Z|exact IF Z|exact DT Z|exact Na Z|exact IG Z|exact Gp Z|exact KW Z|exact KY Z|exact BH Z|exact KZ Z|exact IH Z|exact Gq Z|exact BJ Z|exact BK Z|exact DU Z|exact BL Z|exact qS Z|exact IJ Z|exact L0 Z|exact BM Z|exact DV Z|exact BN Z|exact Gr Z|exact BO Z|exact BP Z|exact IK Z|exact qT Z|exact zT Z|exact pK Z|exact vK Z|exact uW Z|exact BQ Z|exact rW Z|exact AO Z|exact AQ Z|exact qU Z|exact uX Z|exact zU Z|exact nL Z|exact nM Z|exact uY Z|exact lO Z|exact nO Z|exact uZ Z|exact jQ Z)
theorem IE:tC P w K mg base cl 1 "_law_drawn" 46 ["_law_cell","_law_place","_law_number"] 2 aW:=by
 exists zC
theorem IF:tC P w K mg base cl 2 "_law_hands" 47 ["_law_cell","_law_hands_here","_law_k","_law_hand","_law_step","_law_letter"] 1 zE:=by
 exists zD
theorem DT:tC P w K mg base cl 1 "_law_amounts" 48 ["_law_cell","_law_far"] 1 qJ:=by
 exists qI
theorem Na:tC P w K mg base cl 2 "_law_act" 49 ["_law_cell","_law_place","_law_deeds_here","_law_amounts_here","_law_made","_law_way","_law_kind_here","_law_word","_law_thing"] 4 FD:=by
 exists FC
theorem IG:tC P w K mg base cl 3 "_law_deeds" 50 ["_law_script","_law_hands_here","_law_amounts_here","_law_most","_law_hand","_law_deeds_here","_law_cell","_law_seen","_law_k","_law_many","_law_act_here"] 1 zG:=by
 exists zF
theorem Gp:tC P w K mg base cl 1 "_law_rank" 51 ["_law_deed"] 1 pA:=by
 exists uH
theorem KW:tC P w K mg base cl 1 "_law_kind" 53 ["_law_word"] 1 zH:=by
 exists Bt
theorem KY:tC P w K mg base cl 2 "_law_idle" 54 ["_law_rows","_law_at","_law_act_here","_law_name","_law_seen","_law_made"] 2 Bv:=by
 exists Bu
theorem BH:tC P w K mg base cl 1 "_law_covers" 52 ["_law_seen","_law_name","_law_hand","_law_number"] 2 jD:=by
 exists mT
theorem KZ:tC P w K mg base cl 3 "_law_fate" 55 ["_law_rows","_law_at","_law_name","_law_seen","_law_act_here","_law_by","_law_had","_law_later"] 2 uK:=by
 exists Bw
theorem rW:tI P w K mg base cl "Tree" A_Tree 1 ["self"] 1 fN   := by
 exists mkM,Z.z_Tree,Z.m_Tree.1,fM
theorem AO:tM P w K mg base cl "Tree" A_Tree 1 "fill" ["self","rows","lost","thing","kind","holder","spot"] 3 gY   := by
 exists mtM,Z.z_Tree,Z.m_Tree.2.1,kQ
theorem nL:tI P w K mg base cl "Folding" A_Folding 3 ["self","base","rows","lost","thing","kind","holder","spot","content"] 2 dJ   := by
 exists mkM,Z.z_Folding,Z.m_Folding.1,dI
theorem IH:tC P w K mg base cl 1 "empty" 40 [] 0 sF:=by
 exists zJ
theorem nO:tI P w K mg base cl "Undoing" A_Undoing 1 ["self"] 1 dN   := by
 exists mkM,Z.z_Undoing,Z.m_Undoing.1,dM
theorem zT:tM P w K mg base cl "Count" A_Count 1 "hear" ["self","deed","act"] 2 eB   := by
 exists mtM,Z.z_Count,Z.m_Count.2.1,jE
theorem Gq:tC P w K mg base cl 1 "covers" 3 ["seen","name","hand","n"] 2 fF:=by
 exists uL
theorem vK:tM P w K mg base cl "Choice" A_Choice 2 "hear" ["self","deed","name","seen","act","unseen"] 2 cX   := by
 exists mtM,Z.z_Choice,Z.m_Choice.2.1,iC
theorem BQ:tM P w K mg base cl "Bag" A_Bag 2 "hear" ["self","deed","name","seen","act"] 2 eL   := by
 exists mtM,Z.z_Bag,Z.m_Bag.2.1,jF
theorem uX:tM P w K mg base cl "Tree" A_Tree 1 "kind_of" ["self","thing"] 2 bR   := by
 exists mtM,Z.z_Tree,Z.m_Tree.2.2.2.2.1,gH
theorem zU:tM P w K mg base cl "Tree" A_Tree 2 "takes" ["self","holder","spot"] 3 eC   := by
 exists mtM,Z.z_Tree,Z.m_Tree.2.2.2.2.2.1,jG
theorem BJ:tC P w K mg base cl 1 "place_of" 21 ["spot","name","under","side","hand","n"] 2 uN:=by
 exists uM
theorem BK:tC P w K mg base cl 2 "stand_of" 36 ["spot","name"] 2 jH:=by
 exists mW
theorem qU:tM P w K mg base cl "Tree" A_Tree 3 "hear_make" ["self","name","act","word","kind","holder","spot"] 3 eQ   := by
 exists mtM,Z.z_Tree,Z.m_Tree.2.2.2.1,eO
theorem AQ:tM P w K mg base cl "Tree" A_Tree 4 "hear" ["self","deed","name","seen","act"] 2 dU   := by
 exists mtM,Z.z_Tree,Z.m_Tree.2.2.1,kR
theorem jQ:tM P w K mg base cl "Undoing" A_Undoing 2 "undo_numbers" ["self","deed","same_number","name","seen","act","standing","row"] 3 bB   := by
 exists mtM,Z.z_Undoing,Z.m_Undoing.2.2.1,bX
theorem uZ:tM P w K mg base cl "Undoing" A_Undoing 3 "hear" ["self","deed","name","seen","act"] 2 bF   := by
 exists mtM,Z.z_Undoing,Z.m_Undoing.2.1,eD
theorem qT:tI P w K mg base cl "Count" A_Count 1 ["self"] 1 iK   := by
 exists mkM,Z.z_Count,Z.m_Count.1,eR
theorem pK:tI P w K mg base cl "Choice" A_Choice 1 ["self"] 1 eG   := by
 exists mkM,Z.z_Choice,Z.m_Choice.1,gZ
theorem uW:tI P w K mg base cl "Bag" A_Bag 1 ["self"] 1 gI   := by
 exists mkM,Z.z_Bag,Z.m_Bag.1,kT
theorem DU:tC P w K mg base cl 3 "leaf_of" 32 ["kind"] 1 qM:=by
 exists qL
theorem nM:tM P w K mg base cl "Folding" A_Folding 4 "add_leaf" ["self","thing","kind","leaf"] 3 dQ   := by
 exists mtM,Z.z_Folding,Z.m_Folding.2.1,dO
theorem lO:tM P w K mg base cl "Folding" A_Folding 5 "hear_tree" ["self","deed","fate","act"] 2 bQ   := by
 exists mtM,Z.z_Folding,Z.m_Folding.2.2.2.1,cU
theorem BL:tC P w K mg base cl 1 "kind_for" 33 ["word"] 1 jJ:=by
 exists mX
theorem uY:tM P w K mg base cl "Folding" A_Folding 6 "hear" ["self","deed","act"] 2 cM   := by
 exists mtM,Z.z_Folding,Z.m_Folding.2.2.1,gJ
theorem qS:tC P w K mg base cl 7 "fates_in_force" 43 ["deeds","folding","undoing","found","deed","name","seen","act","outcome","by"] 1 eT:=by
 exists eS
theorem IJ:tC P w K mg base cl 1 "stamp" 4 ["deed"] 1 zK:=by
 exists sG
theorem L0:tC P w K mg base cl 2 "rank" 5 ["deed","hand","n"] 1 By:=by
 exists Bx
theorem BM:tC P w K mg base cl 5 "in_order" 6 ["deeds","by_name","deed"] 1 dS:=by
 exists mY
theorem DV:tC P w K mg base cl 1 "name_of" 8 ["deed"] 1 lJ:=by
 exists qN
theorem BN:tC P w K mg base cl 1 "taker_of" 9 ["n","backs","back","word","first","last"] 2 jM:=by
 exists mZ
theorem Gr:tC P w K mg base cl 4 "takers" 10 ["deeds","taken","backs","deed","hand","n","word","by"] 1 pC:=by
 exists uP
theorem BO:tC P w K mg base cl 6 "in_force" 12 ["deeds","ordered","taken"] 1 nD:=by
 exists nC
theorem BP:tC P w K mg base cl 6 "taken_by" 11 ["deeds","ordered","taken"] 1 nG:=by
 exists nF
theorem IK:tC P w K mg base cl 8 "fates" 44 ["deeds","found","name","by"] 1 pD:=by
 exists zL
theorem Nb:tC P w K mg base cl 9 "law" 56 ["_law_script","_law_deeds_here","_law_rows","_law_due","_law_cut","_law_found"] 1 FG:=by
 exists FF
end
def spL(K:Py):Sp:=λvs H Q _=>∃(a:Addr)(ns:List Int),vs=[.ref a]/\Ei H/\SqL K H a (ns.map V.int)/\ns.length<=63/\∀H',Q (.bl true) H'
theorem all_mk{l:PySem.W.OpenLaw}{w:World}{K:Py}{h:Heap}{mg:Str->Option Value}{fa A_Count A_Choice A_Bag A_Tree A_Folding A_Undoing bZ kZ:Addr}(X:K.In h)(G:h.Ns QR mg)(zd:mg "law" = some (.ref fa))(hbn:∀x∈bsL,mg x=none)
  (ds:DsL K dL)
  (ar:ClX K A_Count "Count" fL)
  (m_Count:MsL K A_Count Cz)
  (aj:ClX K A_Choice "Choice" fL)
  (m_Choice:MsL K A_Choice AN)
  (cj:ClX K A_Bag "Bag" fL)
  (m_Bag:MsL K A_Bag J1)
  (bp:ClX K A_Tree "Tree" fL)
  (m_Tree:MsL K A_Tree Gn)
  (ag:ClX K A_Folding "Folding" fL)
  (m_Folding:MsL K A_Folding xM)
  (af:ClX K A_Undoing "Undoing" fL)
  (m_Undoing:MsL K A_Undoing xO)
  {ak:Array RU} {bw:Nat} (BR:Tg K QR "KIND_FOR" = some (some (.ref bZ))) (dq:K.lookup bZ=some ⟨.type "dict",none,.dict ak bw,#[]⟩) (dh:GEs w.params [("add","count"),("choose","choice"),("put","bag"),("take","bag"),("write","text"),("cut","text"),("mark","text"),("clear","text")] ak.toList) (dk:(bZ == QG)=false)
  {bf:Array Value} {d7:Nat} {jj:Array (Option Value)} (L3:Tg K QR "ROOT" = some (some (.ref kZ))) (k7:K.lookup kZ=some ⟨.type "tuple",none,.seq bf d7,jj⟩) (j7:aI [.str "",.int (0)] bf.toList) (km:bf.size<=PP)
  : ∃fd:Rl,(∀(s:Shared)(v:Value),BindsTo s fd ⟨[v],[]⟩ [("_law_script",v)])/\∀base:Heap,K.In base->base.Ns QR mg->cE l.prog w K mg base CX0 9 fa fd ["_law_script"] (spL K):=by
 have Z:∀b,ZZ l.prog b w K mg (clF A_Count A_Choice A_Bag A_Tree A_Folding A_Undoing) A_Count A_Choice A_Bag A_Tree A_Folding A_Undoing bZ kZ:=λ_=>⟨hbn,⟨_,X,G⟩,ds,⟨(if_pos rfl),ar.cls9,RJ X G ar.n,ar.mx,ar.kc⟩,m_Count,⟨((if_neg (by decide)).trans (if_pos rfl)),aj.cls9,RJ X G aj.n,aj.mx,aj.kc⟩,m_Choice,⟨((if_neg (by decide)).trans ((if_neg (by decide)).trans (if_pos rfl))),cj.cls9,RJ X G cj.n,cj.mx,cj.kc⟩,m_Bag,⟨((if_neg (by decide)).trans ((if_neg (by decide)).trans ((if_neg (by decide)).trans (if_pos rfl)))),bp.cls9,RJ X G bp.n,bp.mx,bp.kc⟩,m_Tree,⟨((if_neg (by decide)).trans ((if_neg (by decide)).trans ((if_neg (by decide)).trans ((if_neg (by decide)).trans (if_pos rfl))))),ag.cls9,RJ X G ag.n,ag.mx,ag.kc⟩,m_Folding,⟨((if_neg (by decide)).trans ((if_neg (by decide)).trans ((if_neg (by decide)).trans ((if_neg (by decide)).trans ((if_neg (by decide)).trans (if_pos rfl)))))),af.cls9,RJ X G af.n,af.mx,af.kc⟩,m_Undoing,RJ X G BR,⟨dk,by decide,ak,bw,dq,dh⟩,RJ X G L3,⟨_,bf,d7,[.str "",.int (0)],k7,rfl,rfl,km,j7,rfl,rfl⟩,λf i c a hc=>clI (p:=λa=>Cls K a/\iA K a f) hc ⟨ar.cls9,ar.nf.at i⟩ ⟨aj.cls9,aj.nf.at i⟩ ⟨cj.cls9,cj.nf.at i⟩ ⟨bp.cls9,bp.nf.at i⟩ ⟨ag.cls9,ag.nf.at i⟩ ⟨af.cls9,af.nf.at i⟩⟩;obtain⟨f,a,oc,kV,doc,pm,cdv,ct,od,an,osl,l',c,k⟩:=(Z h).ds.at (x:="law") (i:=56) (by decide +kernel);cases zd.symm.trans (RJ X G a)
 refine⟨_,λs v=>.of_eq (fd:=Rk "law" "law" (dY (top 56)) (bW (top 56)) (aP (top 56)) .none kV doc pm an cdv ct) rfl,λbase _ _=>?_⟩;obtain⟨_,F⟩:=Nb (Z base);have q:fA K "law" = fa:=by rw[fA,a]
 rw[q,dA,l']at F;refine F.imp λvs H Q E hh=>?_;obtain⟨a,ns,rfl,hO,hS,hl,hq⟩:=hh;exact Kg (C:=cC w K (clF A_Count A_Choice A_Bag A_Tree A_Folding A_Undoing)) hO hS (main ns hl) hq
theorem walk{l:PySem.W.OpenLaw}{q:Program}{loose:List Str}{XP:(Str->Option Value)->Heap->Prop}{YP:World->Heap->Prop}{d:DefRec}{K:Params->Py}(hn:l.most=some 63)(my:d.params.defaults=[])
  (hY:∀(w:World)(h:Heap),YP w h->(K w.params).In h)
  (F:∀(w:World)(mg:Str->Option Value)(fa:Addr)(h:Heap),(K w.params).In h->h.Ns QR mg->mg d.name=some (.ref fa)->
   ∃fd:Rl,(∀(s:Shared)(u:Value),BindsTo s fd ⟨[u],[]⟩ [("_law_script",u)])/\∀base:Heap,(K w.params).In base->base.Ns QR mg->cE l.prog w (K w.params) mg base CX0 9 fa fd ["_law_script"] (spL (K w.params))):
  PySem.W.WalkO q loose XP YP l.row.toRowW d [] (λf vs=>PySem.call f vs):=
 L2.walk_of (n:=63) (k:=9) (x:="_law_script") (CX:=λ_=>CX0) (sp:=λw=>spL (K w.params)) hn (by decide) my ⟨rfl,by decide,by decide⟩ hY F (λw H a ns hl hO hS=>⟨a,ns,rfl,hO,hS,hl,λ_=>rfl⟩) λ_ _ _ _ _ z=>z
end K73
open PySem PySem.W PyProof.Rows
namespace PySem.W.Fast
theorem tw8227870146138366223:True:=⟨⟩
theorem tw15303161148140362521:True:=⟨⟩
theorem tw1722891035331067460:True:=⟨⟩
theorem tw12612949343601836011:True:=⟨⟩
theorem tw5674390647232629120:True:=⟨⟩
theorem tw17640612424361461018:True:=⟨⟩
theorem tw3826062349394352759:True:=⟨⟩
theorem tw4346954215414459355:True:=⟨⟩
theorem tw2648926411786328559:True:=⟨⟩
theorem tw16539446119160083983:True:=⟨⟩
theorem tw2448841521568142975:True:=⟨⟩
theorem tw8068074764445168550:True:=⟨⟩
theorem tw16726137044810785055:True:=⟨⟩
theorem tw8206074397920090818:True:=⟨⟩
theorem tw17900427172967517344:True:=⟨⟩
theorem tw2612316180803485542:True:=⟨⟩
theorem tw6421060974506806024:True:=⟨⟩
theorem tw15605847391576826522:True:=⟨⟩
theorem tw230387248705028287:True:=⟨⟩
theorem tw14450706078798013885:True:=⟨⟩
theorem tw3168399444802287716:True:=⟨⟩
theorem tw2614811957235344112:True:=⟨⟩
theorem tw15348691707606841813:True:=⟨⟩
theorem tw18165413649012484163:True:=⟨⟩
theorem tw2627037468202474786:True:=⟨⟩
theorem tw15530742631083129761:True:=⟨⟩
theorem tw3553920144200605440:True:=⟨⟩
theorem tw11731878225239256023:True:=⟨⟩
theorem tw11211910336822204162:True:=⟨⟩
theorem tw9555494540788634954:True:=⟨⟩
theorem tw15386523412508600280:True:=⟨⟩
theorem tw4038942320244423382:True:=⟨⟩
theorem tw10048930908554586850:True:=⟨⟩
theorem tw10726841427154622720:True:=⟨⟩
theorem tw10494657495287227190:True:=⟨⟩
theorem tw11446294731925539535:True:=⟨⟩
theorem tw18027643861413026177:True:=⟨⟩
theorem tw939122950583894151:True:=⟨⟩
theorem tw4357737894372918990:True:=⟨⟩
theorem tw4044269117230725183:True:=⟨⟩
theorem tw17464494725103925567:True:=⟨⟩
theorem tw8553885043349146409:True:=⟨⟩
theorem tw3809272469128046379:True:=⟨⟩
theorem tw9390002403666606116:True:=⟨⟩
theorem tw12918865913614684719:True:=⟨⟩
theorem tw8437376696857334622:True:=⟨⟩
theorem tw4246337386156249572:True:=⟨⟩
theorem tw17551540622888846864:True:=⟨⟩
theorem tw7796148744019137525:True:=⟨⟩
theorem tw10719389766912927608:True:=⟨⟩
theorem tw4539578112395572701:True:=⟨⟩
theorem tw2511089618998817101:True:=⟨⟩
theorem tw13111631397565127432:True:=⟨⟩
theorem tw14558383177440178397:True:=⟨⟩
theorem tw6600735988673225904:True:=⟨⟩
theorem tw10695436570079674795:True:=⟨⟩
theorem tw12785436555562292339:True:=⟨⟩
theorem tw15650326830323057820:True:=⟨⟩
theorem tw5347099503157072400:True:=⟨⟩
theorem tw8337961303690137300:True:=⟨⟩
theorem tw8167877643129642477:True:=⟨⟩
theorem tw14231886729170795040:True:=⟨⟩
theorem tw2307667478322110775:True:=⟨⟩
theorem tw12853645356021392834:True:=⟨⟩
theorem tw10548107713995300064:True:=⟨⟩
theorem tw11467871364679830710:True:=⟨⟩
theorem tw5087512642911010508:True:=⟨⟩
theorem tw15036097089764762472:True:=⟨⟩
theorem tw16713826745215599035:True:=⟨⟩
theorem tw14580911831141903920:True:=⟨⟩
theorem tw9030094844702423437:True:=⟨⟩
theorem tw4717477603273249878:True:=⟨⟩
theorem tw11808224443910816363:True:=⟨⟩
theorem tw12839761610407583281:True:=⟨⟩
theorem tw7030521687790871971:True:=⟨⟩
theorem tw5580399497904032779:True:=⟨⟩
theorem tw8507626055342230990:True:=⟨⟩
theorem tw13888301526146934376:True:=⟨⟩
theorem tw8942653634721727779:True:=⟨⟩
theorem tw1469292774708300170:True:=⟨⟩
theorem tw13510392855951649392:True:=⟨⟩
theorem tw17848279090649679056:True:=⟨⟩
theorem tw4337960217912059745:True:=⟨⟩
theorem tw7938044911551309992:True:=⟨⟩
theorem tw1546449674300681428:True:=⟨⟩
theorem tw2579618680064117030:True:=⟨⟩
theorem tw605085911001954556:True:=⟨⟩
theorem tw16001798106584925346:True:=⟨⟩
theorem tw17025290499726814681:True:=⟨⟩
theorem tw17138717131015494087:True:=⟨⟩
theorem tw13197983347915483442:True:=⟨⟩
theorem tw8826995436486811784:True:=⟨⟩
theorem tw11301642342861703223:True:=⟨⟩
theorem tw4035659482060678892:True:=⟨⟩
theorem tw246702976279589723:True:=⟨⟩
theorem tw13400099881677971974:True:=⟨⟩
theorem tw15990559334761359620:True:=⟨⟩
theorem tw7133898745174585308:True:=⟨⟩
theorem tw16595154116628071135:True:=⟨⟩
theorem tw17211382901661581398:True:=⟨⟩
theorem tw14295013444373760352:True:=⟨⟩
theorem tw12940258715980962248:True:=⟨⟩
theorem tw17363839950868330891:True:=⟨⟩
theorem tw14641352284305110839:True:=⟨⟩
theorem tw11121822061105574105:True:=⟨⟩
theorem tw893378486251692968:True:=⟨⟩
theorem tw13334439168726854038:True:=⟨⟩
theorem tw12291131410404777507:True:=⟨⟩
theorem tw5677308010057718371:True:=⟨⟩
theorem tw5011693776302099762:True:=⟨⟩
theorem tw11146034656776553447:True:=⟨⟩
theorem tw17855183038470587321:True:=⟨⟩
theorem tw16419852882571324653:True:=⟨⟩
theorem tw447100732615329634:True:=⟨⟩
theorem tw7194044035318699372:True:=⟨⟩
theorem tw18142662292436814382:True:=⟨⟩
theorem tw3916805574028364615:True:=⟨⟩
theorem tw14248790845688395952:True:=⟨⟩
theorem tw3046675713086467908:True:=⟨⟩
theorem tw17652998131595910003:True:=⟨⟩
theorem tw4318412524890137384:True:=⟨⟩
theorem tw2515620565402996683:True:=⟨⟩
theorem tw15252314945714172949:True:=⟨⟩
theorem tw9379661146445325571:True:=⟨⟩
theorem tw6875499505642034838:True:=⟨⟩
theorem tw2540118836471494409:True:=⟨⟩
theorem tw10889879253762883805:True:=⟨⟩
theorem tw11171631534941262687:True:=⟨⟩
theorem tw5053785758332714175:True:=⟨⟩
theorem tw5585995227830483985:True:=⟨⟩
theorem tw14748818768818624969:True:=⟨⟩
theorem tw12879304570352823311:True:=⟨⟩
theorem tw7032129945608561431:True:=⟨⟩
theorem tw12496045145795794061:True:=⟨⟩
theorem tw1733336804056740822:True:=⟨⟩
theorem tw5697226176336222582:True:=⟨⟩
theorem tw9445952030311345165:True:=⟨⟩
theorem tw12027863803401900542:True:=⟨⟩
theorem tw2870351304807246743:True:=⟨⟩
theorem tw17454611102278365415:True:=⟨⟩
theorem tw17594496515000465342:True:=⟨⟩
theorem tw3616065631936437353:True:=⟨⟩
theorem tw10662247637268673895:True:=⟨⟩
theorem tw3604958636265744055:True:=⟨⟩
theorem tw388388580089498499:True:=⟨⟩
theorem tw17397788833679182472:True:=⟨⟩
theorem tw3836056508420748964:True:=⟨⟩
theorem tw15542974084626089351:True:=⟨⟩
theorem tw6969689641447817432:True:=⟨⟩
theorem tw16357884054987700032:True:=⟨⟩
theorem tw17378554378264790594:True:=⟨⟩
theorem tw7705508484201558651:True:=⟨⟩
theorem tw2887762532647618057:True:=⟨⟩
theorem tw14673597802219286606:True:=⟨⟩
theorem tw940981664608942665:True:=⟨⟩
theorem tw4997747567691278828:True:=⟨⟩
theorem tw7172080411590923532:True:=⟨⟩
theorem tw4945213038576919606:True:=⟨⟩
theorem tw7804342140298295119:True:=⟨⟩
theorem tw7174362744386863942:True:=⟨⟩
theorem tw12370588031199425:True:=⟨⟩
theorem tw13350816349831923999:True:=⟨⟩
theorem tw3629847961842287416:True:=⟨⟩
theorem tw11676577665741425719:True:=⟨⟩
theorem tw4984694374170734530:True:=⟨⟩
theorem tw9783078212113843869:True:=⟨⟩
theorem tw6607284086927923704:True:=⟨⟩
theorem tw9077307673644878298:True:=⟨⟩
theorem tw13212550638834007347:True:=⟨⟩
theorem tw7779337171791133735:True:=⟨⟩
theorem tw17951623223162050698:True:=⟨⟩
theorem tw7707374311396802479:True:=⟨⟩
theorem tw15350655864746852313:True:=⟨⟩
theorem tw18023822207373061434:True:=⟨⟩
theorem tw8150252954745656850:True:=⟨⟩
theorem tw13451774612381127002:True:=⟨⟩
theorem tw12017408033627916157:True:=⟨⟩
theorem tw1468475622131327801:True:=⟨⟩
theorem tw12170802606045395183:True:=⟨⟩
theorem tw18216408519369590205:True:=⟨⟩
theorem tw13957111757069547397:True:=⟨⟩
theorem tw15075702720055000346:True:=⟨⟩
theorem tw16106399851529884677:True:=⟨⟩
theorem tw5704655802903976629:True:=⟨⟩
theorem tw6326170331848868080:True:=⟨⟩
theorem tw6088031792285893115:True:=⟨⟩
theorem tw13165827328830195138:True:=⟨⟩
theorem tw9670197810556716059:True:=⟨⟩
theorem tw15822822265497506904:True:=⟨⟩
theorem tw6626817301531711586:True:=⟨⟩
theorem tw3450968668102878962:True:=⟨⟩
theorem tw3316555108729750225:True:=⟨⟩
theorem tw4087302147043628961:True:=⟨⟩
theorem tw12258406315378601669:True:=⟨⟩
theorem tw640114162443479737:True:=⟨⟩
theorem tw7645706731391286090:True:=⟨⟩
theorem tw1710990509116620527:True:=⟨⟩
theorem tw14021515122553416633:True:=⟨⟩
theorem tw6345066481207657232:True:=⟨⟩
theorem tw7064385711266238533:True:=⟨⟩
theorem tw16485606143365068917:True:=⟨⟩
theorem tw14929747082729775671:True:=⟨⟩
theorem tw2080888702516102819:True:=⟨⟩
theorem tw12303164254436468795:True:=⟨⟩
theorem tw12917137204612593513:True:=⟨⟩
theorem tw1085014591060909654:True:=⟨⟩
theorem tw10588262676330382251:True:=⟨⟩
theorem tw9842611945973451261:True:=⟨⟩
theorem tw14452765347005916719:True:=⟨⟩
theorem tw14653849112967900887:True:=⟨⟩
theorem tw6727556456093545137:True:=⟨⟩
theorem tw15937440457101798728:True:=⟨⟩
theorem tw4043177489829119249:True:=⟨⟩
theorem tw6683944267555391327:True:=⟨⟩
theorem tw14568923361736630164:True:=⟨⟩
theorem tw9596601369031872566:True:=⟨⟩
theorem tw10887226625011217993:True:=⟨⟩
theorem tw4506073148199386274:True:=⟨⟩
theorem tw3403803962887915905:True:=⟨⟩
theorem tw17053412395350740188:True:=⟨⟩
theorem tw3670430896794111210:True:=⟨⟩
theorem tw8551955739773163726:True:=⟨⟩
theorem tw5835124248668524164:True:=⟨⟩
theorem tw12167368207575228629:True:=⟨⟩
theorem tw5156594711422033877:True:=⟨⟩
theorem tw9333502301212448569:True:=⟨⟩
theorem tw10188305296500712864:True:=⟨⟩
theorem tw3691624910579628677:True:=⟨⟩
theorem tw10193517329943119896:True:=⟨⟩
theorem tw3157139887867923995:True:=⟨⟩
theorem tw6407992850101051865:True:=⟨⟩
theorem tw18283150409237165558:True:=⟨⟩
theorem tw7936722252008982321:True:=⟨⟩
theorem tw13190710529935893297:True:=⟨⟩
theorem tw5943541132927147889:True:=⟨⟩
theorem tw16177672593567780446:True:=⟨⟩
theorem tw10848563973054653926:True:=⟨⟩
theorem tw18324264873764442954:True:=⟨⟩
theorem tw17891094594318420996:True:=⟨⟩
theorem tw15178688853717536857:True:=⟨⟩
theorem tw16878897635083297585:True:=⟨⟩
theorem tw1926009411098394483:True:=⟨⟩
theorem tw14216330757242950305:True:=⟨⟩
theorem tw9237319691425316564:True:=⟨⟩
theorem tw9777906012877514437:True:=⟨⟩
theorem tw12532798784451427357:True:=⟨⟩
theorem tw5610226753813695676:True:=⟨⟩
theorem tw9553081679396482932:True:=⟨⟩
theorem tw563937376322370162:True:=⟨⟩
theorem tw16344316673800857538:True:=⟨⟩
theorem tw12340433583306885163:True:=⟨⟩
theorem tw8796212509159667620:True:=⟨⟩
theorem tw3086105397598767932:True:=⟨⟩
theorem tw10827285434476601001:True:=⟨⟩
theorem tw9957904889739244245:True:=⟨⟩
theorem tw8082146170285036595:True:=⟨⟩
theorem tw15813139059185443949:True:=⟨⟩
theorem tw16651473286094838388:True:=⟨⟩
theorem tw6640915774215854061:True:=⟨⟩
theorem tw6606095229389977513:True:=⟨⟩
theorem tw1492088864103550340:True:=⟨⟩
theorem tw8976209104429558839:True:=⟨⟩
theorem tw17188287807737220310:True:=⟨⟩
theorem tw2868038498863284859:True:=⟨⟩
theorem tw1933103175391730476:True:=⟨⟩
theorem tw7380979608225266478:True:=⟨⟩
theorem tw13388449174551036936:True:=⟨⟩
theorem tw688393855810608151:True:=⟨⟩
theorem tw13994690136656985531:True:=⟨⟩
theorem tw15663545700352696834:True:=⟨⟩
theorem tw1325132434778406626:True:=⟨⟩
theorem tw4964466463580248984:True:=⟨⟩
theorem tw3520739021485511292:True:=⟨⟩
theorem tw9039395753598324039:True:=⟨⟩
theorem tw12520877556842914733:True:=⟨⟩
theorem tw7492218202734385719:True:=⟨⟩
theorem tw11866539055311720967:True:=⟨⟩
theorem tw5794425725513466214:True:=⟨⟩
theorem tw4369523579705964060:True:=⟨⟩
theorem tw1149747762288249473:True:=⟨⟩
theorem tw14910472723683921539:True:=⟨⟩
theorem tw5139740442909422681:True:=⟨⟩
theorem tw14650201392005105935:True:=⟨⟩
theorem tw2905901070919208015:True:=⟨⟩
theorem tw16703178833332982506:True:=⟨⟩
theorem tw12860446452031566205:True:=⟨⟩
theorem tw5925387035953867486:True:=⟨⟩
theorem tw13874969111801472962:True:=⟨⟩
theorem tw5017042182824090252:True:=⟨⟩
theorem tw10075548837632137300:True:=⟨⟩
theorem tw12075967828773369718:True:=⟨⟩
theorem tw5528400346576630865:True:=⟨⟩
theorem tw18269634538235664502:True:=⟨⟩
theorem tw1264968088391976235:True:=⟨⟩
theorem tw8237419824497705168:True:=⟨⟩
theorem tw198997274860007617:True:=⟨⟩
theorem tw17077117918966105513:True:=⟨⟩
theorem tw2568004051010844671:True:=⟨⟩
theorem tw15274348555343860217:True:=⟨⟩
theorem tw2529536898792153953:True:=⟨⟩
theorem tw8831748869938138839:True:=⟨⟩
theorem tw10971223661008719694:True:=⟨⟩
theorem tw9092170893695700874:True:=⟨⟩
theorem tw3371218999544561767:True:=⟨⟩
theorem tw3185850179315957908:True:=⟨⟩
theorem tw9733690373225208246:True:=⟨⟩
theorem tw9423779675142271023:True:=⟨⟩
theorem tw12028000803051562808:True:=⟨⟩
theorem tw6500592094144031563:True:=⟨⟩
theorem tw16886230734447868273:True:=⟨⟩
theorem tw1212098821015784749:True:=⟨⟩
theorem tw13805718116445863441:True:=⟨⟩
theorem tw6425955184960317463:True:=⟨⟩
theorem tw1232205970766843321:True:=⟨⟩
theorem tw2858075298682795051:True:=⟨⟩
theorem tw2959696308948340126:True:=⟨⟩
theorem tw15553935067750153334:True:=⟨⟩
theorem tw1945059272335516619:True:=⟨⟩
theorem tw3148480689933906196:True:=⟨⟩
theorem tw10575842093044804000:True:=⟨⟩
theorem tw4061797121376667065:True:=⟨⟩
theorem tw15431617113138913560:True:=⟨⟩
theorem tw15854845535676189307:True:=⟨⟩
theorem tw8280916360132994211:True:=⟨⟩
theorem tw5933656612829146326:True:=⟨⟩
theorem tw10581428268492325025:True:=⟨⟩
theorem tw18296977830694487731:True:=⟨⟩
theorem tw6545614264065238140:True:=⟨⟩
theorem tw9106484526804503433:True:=⟨⟩
theorem tw6964513088930591276:True:=⟨⟩
theorem tw700140072461900449:True:=⟨⟩
theorem tw14725745615257112103:True:=⟨⟩
theorem tw10004889493777610546:True:=⟨⟩
theorem tw15142983019797015662:True:=⟨⟩
theorem tw142520014385629432:True:=⟨⟩
theorem tw3794584766186096062:True:=⟨⟩
theorem tw1454602201309072419:True:=⟨⟩
theorem tw4043620428954782522:True:=⟨⟩
theorem tw16325282061301055272:True:=⟨⟩
theorem tw16262133148552270310:True:=⟨⟩
theorem tw17853050011938005232:True:=⟨⟩
theorem tw7971879283305251065:True:=⟨⟩
theorem tw10558465988890438338:True:=⟨⟩
theorem tw14475060927489083725:True:=⟨⟩
theorem tw18237738171199212593:True:=⟨⟩
theorem tw5870475559461553176:True:=⟨⟩
theorem tw4347781466523980200:True:=⟨⟩
theorem tw2290650392114222715:True:=⟨⟩
theorem tw6760907537924929100:True:=⟨⟩
theorem tw4835252174380751340:True:=⟨⟩
theorem tw9254432335702978262:True:=⟨⟩
theorem tw13954240086978060472:True:=⟨⟩
theorem tw13516820683048801108:True:=⟨⟩
theorem tw16372372404851863904:True:=⟨⟩
theorem tw460114092042208213:True:=⟨⟩
theorem tw12792137688805009443:True:=⟨⟩
theorem tw5784600882062600075:True:=⟨⟩
theorem tw12532880131931730798:True:=⟨⟩
theorem tw2102165420135711796:True:=⟨⟩
theorem tw4287866889775330095:True:=⟨⟩
theorem tw15164327496408606327:True:=⟨⟩
theorem tw15149458419656717588:True:=⟨⟩
theorem tw4698476687522936158:True:=⟨⟩
theorem tw7968633066488620506:True:=⟨⟩
theorem tw12509553603833372559:True:=⟨⟩
theorem tw15492600807252039551:True:=⟨⟩
theorem tw4182422318686762888:True:=⟨⟩
theorem tw14393683824181323555:True:=⟨⟩
theorem tw7827063904885938650:True:=⟨⟩
theorem tw9414887449555401818:True:=⟨⟩
theorem tw15089059750889605190:True:=⟨⟩
theorem tw10804460107608816486:True:=⟨⟩
theorem tw16290520138078531509:True:=⟨⟩
theorem tw17761102089941247188:True:=⟨⟩
theorem tw10996659229400566839:True:=⟨⟩
theorem tw4641147292036005551:True:=⟨⟩
theorem tw6912122958023699967:True:=⟨⟩
theorem tw17478501266193556726:True:=⟨⟩
theorem tw2868578601485191307:True:=⟨⟩
theorem tw12451096007729269336:True:=⟨⟩
theorem tw13711308573942747622:True:=⟨⟩
theorem tw17041982543120054647:True:=⟨⟩
theorem tw17272974783413841939:True:=⟨⟩
theorem tw1872423290550977560:True:=⟨⟩
theorem tw15233614120974098955:True:=⟨⟩
theorem tw4353432863297007794:True:=⟨⟩
theorem tw15026353485776542642:True:=⟨⟩
theorem tw7900029851173046590:True:=⟨⟩
theorem tw193477982078524996:True:=⟨⟩
theorem tw11349981391943003192:True:=⟨⟩
theorem tw11841324608483737560:True:=⟨⟩
theorem tw8197873373625868876:True:=⟨⟩
theorem tw14134809585173484394:True:=⟨⟩
theorem tw11847424895302265902:True:=⟨⟩
theorem tw15042811584015089689:True:=⟨⟩
theorem tw9831901294009367760:True:=⟨⟩
theorem tw365006587089743321:True:=⟨⟩
theorem tw9633248025699350464:True:=⟨⟩
theorem tw4110018857474462982:True:=⟨⟩
theorem tw6258734330976023048:True:=⟨⟩
theorem tw4114872034639638637:True:=⟨⟩
theorem tw16316828116908502815:True:=⟨⟩
theorem tw9456510240818058338:True:=⟨⟩
theorem tw5298999916694550432:True:=⟨⟩
theorem tw12367834041425483332:True:=⟨⟩
theorem tw16807323051643479458:True:=⟨⟩
theorem tw6072703943538665261:True:=⟨⟩
theorem tw4242287376499609738:True:=⟨⟩
theorem tw16914771718912448148:True:=⟨⟩
theorem tw16812667602045859392:True:=⟨⟩
theorem tw4716389979788456777:True:=⟨⟩
theorem tw12006670653113870213:True:=⟨⟩
theorem tw3662532946993074462:True:=⟨⟩
theorem tw5588640199191422275:True:=⟨⟩
theorem tw12601145668567915359:True:=⟨⟩
theorem tw6400985021366574591:True:=⟨⟩
theorem tw12143042892214916607:True:=⟨⟩
theorem tw6365437225726135755:True:=⟨⟩
theorem tw16176942668107829812:True:=⟨⟩
theorem tw8848606087132070790:True:=⟨⟩
theorem tw9755753271276085504:True:=⟨⟩
theorem tw14406624633523446983:True:=⟨⟩
theorem tw7423968955797964949:True:=⟨⟩
theorem tw2441867109466558968:True:=⟨⟩
theorem tw6636460188163320105:True:=⟨⟩
theorem tw11371630358697488295:True:=⟨⟩
theorem tw16300193064409544490:True:=⟨⟩
theorem tw15636696517645112608:True:=⟨⟩
theorem tw6855897861073317254:True:=⟨⟩
theorem tw14013967423565701487:True:=⟨⟩
theorem tw15561322933383504468:True:=⟨⟩
theorem tw11234489408562190901:True:=⟨⟩
theorem tw3959006134950801597:True:=⟨⟩
theorem tw7034803142987654302:True:=⟨⟩
theorem tw17290566241890430056:True:=⟨⟩
theorem tw1205522486382208068:True:=⟨⟩
theorem tw16810748044505369897:True:=⟨⟩
theorem tw12357334313010814816:True:=⟨⟩
theorem tw1588403540795262630:True:=⟨⟩
theorem tw9630539097566603829:True:=⟨⟩
theorem tw6767808436021244042:True:=⟨⟩
theorem tw12087716761569891242:True:=⟨⟩
theorem tw4491929516684162570:True:=⟨⟩
theorem tw17413986186401998705:True:=⟨⟩
theorem tw2733873217017902196:True:=⟨⟩
theorem tw14560563906379377337:True:=⟨⟩
theorem tw14431215379079518829:True:=⟨⟩
theorem tw18031050891355769800:True:=⟨⟩
theorem tw5931592440413880579:True:=⟨⟩
theorem tw4067593126988737911:True:=⟨⟩
theorem tw16356699963811451885:True:=⟨⟩
theorem tw12409227744716401691:True:=⟨⟩
theorem tw17825415322877062486:True:=⟨⟩
theorem tw16640903552243331258:True:=⟨⟩
theorem tw9966131474902055249:True:=⟨⟩
theorem tw9056913247886568158:True:=⟨⟩
theorem tw171335588636545596:True:=⟨⟩
theorem tw9767385796097824272:True:=⟨⟩
theorem tw6451646792288708645:True:=⟨⟩
theorem tw10850530260444702219:True:=⟨⟩
theorem tw11103809513286797994:True:=⟨⟩
theorem tw3901819398654990631:True:=⟨⟩
theorem tw17694549555055153675:True:=⟨⟩
theorem tw8872854314770447214:True:=⟨⟩
theorem tw13606920284199960383:True:=⟨⟩
theorem tw13717200131720370624:True:=⟨⟩
theorem tw15045635494782648105:True:=⟨⟩
theorem tw8381796652557159878:True:=⟨⟩
theorem tw15141281337078545280:True:=⟨⟩
theorem tw3529615097569797365:True:=⟨⟩
theorem tw13196268047981361366:True:=⟨⟩
theorem tw696026630558847305:True:=⟨⟩
theorem tw13788847640261658925:True:=⟨⟩
theorem tw11895266281384603729:True:=⟨⟩
theorem tw5850175559442082207:True:=⟨⟩
theorem tw1101769752536450650:True:=⟨⟩
theorem tw5186127231959531123:True:=⟨⟩
theorem tw7746227791566552907:True:=⟨⟩
theorem tw2757836065799875276:True:=⟨⟩
theorem tw9417483588132918621:True:=⟨⟩
theorem tw6842640600383844955:True:=⟨⟩
theorem tw14411456330886319206:True:=⟨⟩
theorem tw33709394286547223:True:=⟨⟩
theorem tw7206706816382795723:True:=⟨⟩
theorem tw12120439763294565702:True:=⟨⟩
theorem tw1713206035972138145:True:=⟨⟩
theorem tw5479134804044861451:True:=⟨⟩
theorem tw11920051331893719178:True:=⟨⟩
theorem tw9402718677541415468:True:=⟨⟩
theorem tw6089809351884122953:True:=⟨⟩
theorem tw2053676731453292171:True:=⟨⟩
theorem tw28600356176007486:True:=⟨⟩
theorem tw14742251327227018628:True:=⟨⟩
theorem tw2064686275502066356:True:=⟨⟩
theorem tw17285522153800677739:True:=⟨⟩
theorem tw8520497981733441244:True:=⟨⟩
theorem tw9772903958599436741:True:=⟨⟩
theorem tw15967131686297926990:True:=⟨⟩
theorem tw3228462471198924477:True:=⟨⟩
theorem tw3091511046531711173:True:=⟨⟩
theorem tw15272726565029584129:True:=⟨⟩
theorem tw17173096976690828159:True:=⟨⟩
theorem tw9621411108377846793:True:=⟨⟩
theorem tw5115115603953214296:True:=⟨⟩
theorem tw17512951908658243815:True:=⟨⟩
theorem tw8560850259047973035:True:=⟨⟩
theorem tw2010108783934116418:True:=⟨⟩
theorem tw13645350951515924769:True:=⟨⟩
theorem tw1401605900812242734:True:=⟨⟩
theorem tw10476912221751817456:True:=⟨⟩
theorem tw12899941224386655229:True:=⟨⟩
theorem tw14248566653864112316:True:=⟨⟩
theorem tw7178246856326057847:True:=⟨⟩
theorem tw14877026297203054309:True:=⟨⟩
theorem tw6703891297699003238:True:=⟨⟩
theorem tw13513084562478789517:True:=⟨⟩
theorem tw13493749571560966230:True:=⟨⟩
theorem tw5686136175286371757:True:=⟨⟩
theorem tw2673202540775679275:True:=⟨⟩
theorem tw14064011125681880659:True:=⟨⟩
theorem tw9028212273597967868:True:=⟨⟩
theorem tw3778746806314922475:True:=⟨⟩
theorem tw10194607912137961908:True:=⟨⟩
theorem tw7109595259208298987:True:=⟨⟩
theorem tw2436934483725517056:True:=⟨⟩
theorem tw12814051246936254231:True:=⟨⟩
theorem tw7089160467366277832:True:=⟨⟩
theorem tw9618650774502986011:True:=⟨⟩
theorem tw1557535168973482672:True:=⟨⟩
theorem tw12871522086774026288:True:=⟨⟩
theorem tw18026219627243726173:True:=⟨⟩
theorem tw652202678302266637:True:=⟨⟩
theorem tw16189741718679056583:True:=⟨⟩
theorem tw13786050349877489250:True:=⟨⟩
theorem tw16636144871685454334:True:=⟨⟩
theorem tw16088560665526180898:True:=⟨⟩
theorem tw17502540519284093016:True:=⟨⟩
theorem tw11698835267834871134:True:=⟨⟩
theorem tw2513289035845182804:True:=⟨⟩
theorem tw844250565491723526:True:=⟨⟩
theorem tw8178900544251940504:True:=⟨⟩
theorem tw18077760909578758345:True:=⟨⟩
theorem tw3571094492023862854:True:=⟨⟩
theorem tw9276906432999434761:True:=⟨⟩
theorem tw9044832340007797712:True:=⟨⟩
theorem tw9247132948647133738:True:=⟨⟩
theorem tw13901927865685290405:True:=⟨⟩
theorem tw4795714268345223208:True:=⟨⟩
theorem tw17430166338931373622:True:=⟨⟩
theorem tw7326878043593078941:True:=⟨⟩
theorem tw9803998890589467674:True:=⟨⟩
theorem tw3283979586934613703:True:=⟨⟩
theorem tw4828660276933696382:True:=⟨⟩
theorem tw5198215145697998411:True:=⟨⟩
theorem tw2425933630190542430:True:=⟨⟩
theorem tw13456424875093328239:True:=⟨⟩
theorem tw3036924954690706811:True:=⟨⟩
theorem tw3764296089571822447:True:=⟨⟩
theorem tw12562251506157073249:True:=⟨⟩
theorem tw2664411966054484718:True:=⟨⟩
theorem tw15200881249668360652:True:=⟨⟩
theorem tw1420783619954568399:True:=⟨⟩
theorem tw5483412890930110599:True:=⟨⟩
theorem tw10217081117312007342:True:=⟨⟩
theorem tw6873493326051989973:True:=⟨⟩
theorem tw3966095304313821209:True:=⟨⟩
theorem tw5090377010028888511:True:=⟨⟩
theorem tw3752318219654790099:True:=⟨⟩
theorem tw9494633330726736414:True:=⟨⟩
theorem tw4583562062404539423:True:=⟨⟩
theorem tw5686938911882546858:True:=⟨⟩
theorem tw12788681734822375971:True:=⟨⟩
theorem tw14603992530101117196:True:=⟨⟩
theorem tw10550421867367866987:True:=⟨⟩
theorem tw1835979197247538262:True:=⟨⟩
theorem tw400622739596441113:True:=⟨⟩
theorem tw9247797499622591100:True:=⟨⟩
theorem tw7678233716980367894:True:=⟨⟩
theorem tw13573119236100156724:True:=⟨⟩
theorem tw9326290795233029952:True:=⟨⟩
theorem tw5769264037357320792:True:=⟨⟩
theorem tw10257441358030380772:True:=⟨⟩
theorem tw4686236068672143306:True:=⟨⟩
theorem tw2698874681761437201:True:=⟨⟩
theorem tw12345465166079079541:True:=⟨⟩
theorem tw12093402028286503574:True:=⟨⟩
theorem tw14181311558910931680:True:=⟨⟩
theorem tw6267070016704495352:True:=⟨⟩
theorem tw9732223909846851540:True:=⟨⟩
theorem tw17786450258386310486:True:=⟨⟩
theorem tw15760242299069640664:True:=⟨⟩
theorem tw11427684211089577538:True:=⟨⟩
theorem tw11237932088504357276:True:=⟨⟩
theorem tw12597163341143738449:True:=⟨⟩
theorem tw1833657081232885409:True:=⟨⟩
theorem tw3849556479895896098:True:=⟨⟩
theorem tw18102555641574157681:True:=⟨⟩
theorem tw621967252281988467:True:=⟨⟩
theorem tw17857839989999739276:True:=⟨⟩
theorem tw13364769155867777142:True:=⟨⟩
theorem tw7685494933948649945:True:=⟨⟩
theorem tw17457714349658150907:True:=⟨⟩
theorem tw7224080167009337533:True:=⟨⟩
theorem tw5410410372111484985:True:=⟨⟩
theorem tw2880843600361651783:True:=⟨⟩
theorem tw1774420760220245455:True:=⟨⟩
theorem tw11888279228397100558:True:=⟨⟩
theorem tw14770925910414496557:True:=⟨⟩
theorem tw18387993608247582315:True:=⟨⟩
theorem tw9202928388310770895:True:=⟨⟩
theorem tw12576829641175922326:True:=⟨⟩
theorem tw10805601127102474418:True:=⟨⟩
theorem tw16834883720786179828:True:=⟨⟩
theorem tw5806152275581339778:True:=⟨⟩
theorem tw8928856413745101171:True:=⟨⟩
theorem tw9145068905325760470:True:=⟨⟩
theorem tw14581053072769192903:True:=⟨⟩
theorem tw1299980451034205002:True:=⟨⟩
theorem tw7250980991383310082:True:=⟨⟩
theorem tw2870416831382997280:True:=⟨⟩
theorem tw18373391053229015029:True:=⟨⟩
theorem tw11217918059018966732:True:=⟨⟩
theorem tw10610551626765958366:True:=⟨⟩
theorem tw259034177072373400:True:=⟨⟩
theorem tw12777914323538680190:True:=⟨⟩
theorem tw9676885170723167733:True:=⟨⟩
theorem tw13701132452883184054:True:=⟨⟩
theorem tw18000246412850763228:True:=⟨⟩
theorem tw6797278064376230718:True:=⟨⟩
theorem tw17680483159289446077:True:=⟨⟩
theorem tw11844613580231348471:True:=⟨⟩
theorem tw16643388076310085487:True:=⟨⟩
theorem tw18362407914047754168:True:=⟨⟩
theorem tw17538974772530189717:True:=⟨⟩
theorem tw15238525601583033482:True:=⟨⟩
theorem tw14755526056380753721:True:=⟨⟩
theorem tw14988580210721037512:True:=⟨⟩
theorem tw6811850436569020461:True:=⟨⟩
theorem tw16708867487002161466:True:=⟨⟩
theorem tw2593406073894716086:True:=⟨⟩
theorem tw13065776883611264864:True:=⟨⟩
theorem tw15737926508903763709:True:=⟨⟩
theorem tw16701841491224680973:True:=⟨⟩
theorem tw17390996389675246133:True:=⟨⟩
theorem tw5751639716076975244:True:=⟨⟩
theorem tw11065642385905561598:True:=⟨⟩
theorem tw1379620984967060300:True:=⟨⟩
theorem tw2570652511193732010:True:=⟨⟩
theorem tw16108425526129351376:True:=⟨⟩
theorem tw13494013264435723264:True:=⟨⟩
theorem tw1690437094767332621:True:=⟨⟩
theorem tw12119106507382579147:True:=⟨⟩
theorem tw16783811369751466888:True:=⟨⟩
theorem tw12857530444795725639:True:=⟨⟩
theorem tw12622470978950930051:True:=⟨⟩
theorem tw2565254866778695239:True:=⟨⟩
theorem tw11257603106577541888:True:=⟨⟩
theorem tw9183033951897740253:True:=⟨⟩
theorem tw12412955551766616404:True:=⟨⟩
theorem tw14230831343195789553:True:=⟨⟩
theorem tw17855503332568495517:True:=⟨⟩
theorem tw3411889435744198555:True:=⟨⟩
theorem tw17591106545934487013:True:=⟨⟩
theorem tw5685819981989564872:True:=⟨⟩
theorem tw3789879037786371971:True:=⟨⟩
theorem tw12712222066738340622:True:=⟨⟩
theorem tw7893744168738286045:True:=⟨⟩
theorem tw5143192500462953110:True:=⟨⟩
theorem tw11873715676006178003:True:=⟨⟩
theorem tw4974660681131442409:True:=⟨⟩
theorem tw14225083494067050623:True:=⟨⟩
theorem tw6367749284026034386:True:=⟨⟩
theorem tw5403539818183379838:True:=⟨⟩
theorem tw17166331885811421579:True:=⟨⟩
theorem tw9840321002308852419:True:=⟨⟩
theorem tw3235247222277402382:True:=⟨⟩
theorem tw157747917536720882:True:=⟨⟩
theorem tw12779661903956843410:True:=⟨⟩
theorem tw13431571657942009326:True:=⟨⟩
theorem tw4577491173676146313:True:=⟨⟩
theorem tw15216680682267600927:True:=⟨⟩
theorem tw13479673974687104396:True:=⟨⟩
theorem tw9980454872268791835:True:=⟨⟩
theorem tw7447859831447511826:True:=⟨⟩
theorem tw10784303797502625702:True:=⟨⟩
theorem tw10404237199819672558:True:=⟨⟩
theorem tw17605351591693226009:True:=⟨⟩
theorem tw15566041146464388561:True:=⟨⟩
theorem tw15251613633649282294:True:=⟨⟩
theorem tw11814197510483731442:True:=⟨⟩
theorem tw14620205514128946321:True:=⟨⟩
theorem tw13594629302954799159:True:=⟨⟩
theorem tw5336964190584082086:True:=⟨⟩
theorem tw18016504262368993873:True:=⟨⟩
theorem tw15012482853945418464:True:=⟨⟩
theorem tw7856339501699461388:True:=⟨⟩
theorem tw17637867387259428482:True:=⟨⟩
theorem tw13720469048980847344:True:=⟨⟩
theorem tw3456922525759123504:True:=⟨⟩
theorem tw15290761301139491880:True:=⟨⟩
theorem tw9207094840511922795:True:=⟨⟩
theorem tw14054339573236196810:True:=⟨⟩
theorem tw7776382274067074120:True:=⟨⟩
theorem tw15648021543464763130:True:=⟨⟩
theorem tw7507004960653146987:True:=⟨⟩
theorem tw7454203134432000012:True:=⟨⟩
theorem tw5129375323100551469:True:=⟨⟩
theorem tw12323391177212019663:True:=⟨⟩
theorem tw5561448617546640555:True:=⟨⟩
theorem tw2566500236691740101:True:=⟨⟩
theorem tw17685442664227332334:True:=⟨⟩
theorem tw7248801955888086472:True:=⟨⟩
theorem tw5651834553962213513:True:=⟨⟩
theorem tw18225884616895417018:True:=⟨⟩
theorem tw9643102596202911350:True:=⟨⟩
theorem tw11395131428282216278:True:=⟨⟩
theorem tw704787417265388481:True:=⟨⟩
theorem tw11574045847158007412:True:=⟨⟩
theorem tw1926361781073456932:True:=⟨⟩
theorem tw8313200609590435307:True:=⟨⟩
theorem tw18389004806970333339:True:=⟨⟩
theorem tw10082388447709033438:True:=⟨⟩
theorem tw8614022267715605561:True:=⟨⟩
theorem tw6285675025008095849:True:=⟨⟩
theorem tw15987200276323386711:True:=⟨⟩
theorem tw9712305377730615145:True:=⟨⟩
theorem tw1654762169709666850:True:=⟨⟩
theorem tw15413247015410502386:True:=⟨⟩
theorem tw7782025464045957729:True:=⟨⟩
theorem tw688345201209323627:True:=⟨⟩
theorem tw15607315288224737037:True:=⟨⟩
theorem tw1051577996922781052:True:=⟨⟩
theorem tw13778676893065571655:True:=⟨⟩
theorem tw7331006363783066562:True:=⟨⟩
theorem tw1730744969577701683:True:=⟨⟩
theorem tw1850582216802087564:True:=⟨⟩
theorem tw9626550880887547661:True:=⟨⟩
theorem tw17110744733718655355:True:=⟨⟩
theorem tw12299889915186068603:True:=⟨⟩
theorem tw8818470340444401826:True:=⟨⟩
theorem tw6443068657636743443:True:=⟨⟩
theorem tw10018652979264256049:True:=⟨⟩
theorem tw9038383784838110057:True:=⟨⟩
theorem tw16736777986368680774:True:=⟨⟩
theorem tw2076764986936099781:True:=⟨⟩
theorem tw111405208059707529:True:=⟨⟩
theorem tw17453142666912403578:True:=⟨⟩
theorem tw9651055164453858799:True:=⟨⟩
theorem tw3448055555270052981:True:=⟨⟩
theorem tw16845048016923556149:True:=⟨⟩
theorem tw14141954678933963195:True:=⟨⟩
theorem tw793983223296327022:True:=⟨⟩
theorem tw8958850858050103125:True:=⟨⟩
theorem tw15169477241851952110:True:=⟨⟩
theorem tw85541712686381274:True:=⟨⟩
theorem tw14445318742457134191:True:=⟨⟩
theorem tw11133341023496221421:True:=⟨⟩
theorem tw3635094967261699005:True:=⟨⟩
theorem tw15170464298129869877:True:=⟨⟩
theorem tw4309284430625567339:True:=⟨⟩
theorem tw16161630601313413590:True:=⟨⟩
theorem tw1179556570394369411:True:=⟨⟩
theorem tw7714367907856910096:True:=⟨⟩
theorem tw6714947389526435132:True:=⟨⟩
theorem tw6034642316633345787:True:=⟨⟩
theorem tw151029285176300600:True:=⟨⟩
theorem tw5229182299067165349:True:=⟨⟩
theorem tw10000969139049924996:True:=⟨⟩
theorem tw11903361899231033484:True:=⟨⟩
theorem tw10020073668151906934:True:=⟨⟩
theorem tw7881560340346339075:True:=⟨⟩
theorem tw3336480987587109285:True:=⟨⟩
theorem tw12671773750531643440:True:=⟨⟩
theorem tw6311787925069287542:True:=⟨⟩
theorem tw280738585542014727:True:=⟨⟩
theorem tw191978228810851704:True:=⟨⟩
theorem tw13790199472214026268:True:=⟨⟩
theorem tw7693004833704284388:True:=⟨⟩
theorem tw6362363550232537456:True:=⟨⟩
theorem tw14384290548654991050:True:=⟨⟩
theorem tw15679424454163606584:True:=⟨⟩
theorem tw9098086857885234243:True:=⟨⟩
theorem tw1037736154537494585:True:=⟨⟩
theorem tw6102572140804007831:True:=⟨⟩
theorem tw2248683598236875524:True:=⟨⟩
theorem tw8196014909110221466:True:=⟨⟩
theorem tw12698737688621446129:True:=⟨⟩
theorem tw5895446654417122011:True:=⟨⟩
theorem tw14874640228201723121:True:=⟨⟩
theorem tw17773958790638424664:True:=⟨⟩
theorem tw554533705883919114:True:=⟨⟩
theorem tw221232342018947933:True:=⟨⟩
theorem tw14594005624989461842:True:=⟨⟩
theorem tw16104343781288510669:True:=⟨⟩
theorem tw18013991860670030849:True:=⟨⟩
theorem tw11270858014686864745:True:=⟨⟩
theorem tw5900023991896910933:True:=⟨⟩
theorem tw8040681219015785433:True:=⟨⟩
theorem tw16093071016881350154:True:=⟨⟩
theorem tw13085101155769564951:True:=⟨⟩
theorem tw16925876846325100698:True:=⟨⟩
theorem tw18087446011026802217:True:=⟨⟩
theorem tw13499740790206322164:True:=⟨⟩
theorem tw360250633556992352:True:=⟨⟩
theorem tw3422042531629272750:True:=⟨⟩
theorem tw13817353072779970310:True:=⟨⟩
theorem tw9966978929171699041:True:=⟨⟩
theorem tw5403980650943298654:True:=⟨⟩
theorem tw13448932738212483349:True:=⟨⟩
theorem tw11322696585297651363:True:=⟨⟩
theorem tw16922045778350377570:True:=⟨⟩
theorem tw14623968147143135259:True:=⟨⟩
theorem tw6645743039419944909:True:=⟨⟩
theorem tw119391904466409252:True:=⟨⟩
theorem tw5124144489766259147:True:=⟨⟩
theorem tw17266653338675824443:True:=⟨⟩
theorem tw5030724179023240355:True:=⟨⟩
theorem tw4037081499252844210:True:=⟨⟩
theorem tw16393651557451827673:True:=⟨⟩
theorem tw13593724787566263271:True:=⟨⟩
theorem tw15258901210848797181:True:=⟨⟩
theorem tw16384409565996792371:True:=⟨⟩
theorem tw12213096076750551267:True:=⟨⟩
theorem tw9050044489421862441:True:=⟨⟩
theorem tw6314568556002405501:True:=⟨⟩
theorem tw7554292312885687432:True:=⟨⟩
theorem tw8686873788397118682:True:=⟨⟩
theorem tw13384045847614491725:True:=⟨⟩
theorem tw1923505874829964904:True:=⟨⟩
theorem tw8080187708564864591:True:=⟨⟩
theorem tw15748551793474408794:True:=⟨⟩
theorem tw13457250273989080719:True:=⟨⟩
theorem tw5928781800834359938:True:=⟨⟩
end PySem.W.Fast
end
set_option maxRecDepth 100000 in
set_option maxHeartbeats 0 in
theorem PySem.Challenge.cw_copymeet_k73_outdone_by_who_had_seen_holds : PySem.Challenge.rw_copymeet_k73_outdone_by_who_had_seen.Holds := by
 w_on; o_law; k_head; (case hw=>w_witness2)
 k_fill
 refine K73.walk (l:=PySem.Challenge.rw_copymeet_k73_outdone_by_who_had_seen) rfl rfl (fun w h Y=>PySem.W.kIn_of Y) ?F
 case F=>
  intro w mg fa h KX G hmg
  have hbn:∀ x∈K73.bsL,mg x=none:=fun x hx=>by
   iterate 10 (rcases List.mem_cons.mp hx with rfl | hx; · exact PySem.W.mg_none_of KX G (by k_is))
   cases hx
  refine' K73.all_mk KX G hmg hbn ?h0 ?h1 ?h2 ?h3 ?h4 ?h5 ?h6 ?h7 ?h8 ?h9 ?h10 ?h11 ?h12 ?h13 ?h14 ?h15 ?h16 ?h17 ?h18 ?h19 ?h20
  (case h0=>repeat' first | exact trivial | refine ⟨⟨_,by k_is,_,_,_,_,_,_,_,_,_,by k_is,by k_is,by k_is⟩,?_⟩)
  (case h1=>exact ⟨by k_is,by k_is,by k_is,by k_is,by k_is,by k_is,by k_is,by k_is,by k_is,by k_is,by k_is,by k_is,by k_is,by k_is,by k_is,by k_is,by k_is,by k_is,trivial⟩)
  (case h2=>repeat' first | exact trivial | refine ⟨⟨_,by k_is,by k_is,_,_,_,_,_,_,_,_,_,by k_is,by k_is,by k_is⟩,?_⟩)
  (case h3=>exact ⟨by k_is,by k_is,by k_is,by k_is,by k_is,by k_is,by k_is,by k_is,by k_is,by k_is,by k_is,by k_is,by k_is,by k_is,by k_is,by k_is,by k_is,by k_is,trivial⟩)
  (case h4=>repeat' first | exact trivial | refine ⟨⟨_,by k_is,by k_is,_,_,_,_,_,_,_,_,_,by k_is,by k_is,by k_is⟩,?_⟩)
  (case h5=>exact ⟨by k_is,by k_is,by k_is,by k_is,by k_is,by k_is,by k_is,by k_is,by k_is,by k_is,by k_is,by k_is,by k_is,by k_is,by k_is,by k_is,by k_is,by k_is,trivial⟩)
  (case h6=>repeat' first | exact trivial | refine ⟨⟨_,by k_is,by k_is,_,_,_,_,_,_,_,_,_,by k_is,by k_is,by k_is⟩,?_⟩)
  (case h7=>exact ⟨by k_is,by k_is,by k_is,by k_is,by k_is,by k_is,by k_is,by k_is,by k_is,by k_is,by k_is,by k_is,by k_is,by k_is,by k_is,by k_is,by k_is,by k_is,trivial⟩)
  (case h8=>repeat' first | exact trivial | refine ⟨⟨_,by k_is,by k_is,_,_,_,_,_,_,_,_,_,by k_is,by k_is,by k_is⟩,?_⟩)
  (case h9=>exact ⟨by k_is,by k_is,by k_is,by k_is,by k_is,by k_is,by k_is,by k_is,by k_is,by k_is,by k_is,by k_is,by k_is,by k_is,by k_is,by k_is,by k_is,by k_is,trivial⟩)
  (case h10=>repeat' first | exact trivial | refine ⟨⟨_,by k_is,by k_is,_,_,_,_,_,_,_,_,_,by k_is,by k_is,by k_is⟩,?_⟩)
  (case h11=>exact ⟨by k_is,by k_is,by k_is,by k_is,by k_is,by k_is,by k_is,by k_is,by k_is,by k_is,by k_is,by k_is,by k_is,by k_is,by k_is,by k_is,by k_is,by k_is,trivial⟩)
  (case h12=>repeat' first | exact trivial | refine ⟨⟨_,by k_is,by k_is,_,_,_,_,_,_,_,_,_,by k_is,by k_is,by k_is⟩,?_⟩)
  (case h13=>k_is)
  (case h14=>k_is)
  (case h17=>k_is)
  (case h18=>k_is)
  (case h15=>exact ⟨rfl,⟨_,rfl⟩,⟨_,rfl⟩,rfl,⟨_,rfl⟩,⟨_,rfl⟩,rfl,⟨_,rfl⟩,⟨_,rfl⟩,rfl,⟨_,rfl⟩,⟨_,rfl⟩,rfl,⟨_,rfl⟩,⟨_,rfl⟩,rfl,⟨_,rfl⟩,⟨_,rfl⟩,rfl,⟨_,rfl⟩,⟨_,rfl⟩,rfl,⟨_,rfl⟩,⟨_,rfl⟩,trivial⟩)
  (case h16=>decide +kernel)
  (case h19=>exact (.cons ⟨_,rfl⟩ (.cons ⟨_,rfl⟩ .nil)))
  (case h20=>decide +kernel)
