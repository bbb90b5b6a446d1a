import PyProof.Rows.All
import Wide.All
import OpenK.AllK
import Wide.FinOn
import Lean
import PyProof.EqAt
import PyProof.EqKinds
import PyProof.TupleCall
import PyProof.NeKinds
import KE.KDictOf
import PyProof.AttrMissHeap
import PyProof.WalksMore
import PyProof.MeetsDict
import KE.KDictList
import KE.KRevIter
import PyProof.DictItemsLoops
import PyProof.DictWalks
import KE.KSortTup
import KE.KDictSum
import PyProof.SumAny
import PyProof.Conv_int_bool
import PyProof.Conv_int
import KE.KRevSl
import PyProof.MeetsStr
import PyProof.StrCalls3
import PyProof.Rows.TupDisplay
import PyProof.ZipIter
import PyProof.Draws
import PyProof.EnumMake
import PySem.Challenge.RW_copymeet_k71_taken_back_or_not
set_option compiler.extract_closed false
open PySem renaming wpAny_bind->Pf,wpAny_pure->Ph,sizeLine->Pt,starEach->PJ,wpAny_newObj_type->PY,compareOp->P4,Spec->Qa,wpAny_call_entry->Qf,wpAny_dictEntries->Qg,sysModules->Qm,wpAny_callSpecial?_slot->Qr,cellsFrom->Qu,mainGlobals->Qz,binaryOp->QD,sizeLine_eq->QE,foldedSetIterable->QU,DictEntry->QX,wpAny_notOrdered_dict->QZ,wpAny_Call_Name_kw->Q4,wpAny_dictEpoch->Q8,call_meetsIn->Rb,FuncData->Rc,wpAny_typeNameOfWhole_itemiter->Rj,wpAny_typeNameOfWhole_valiter->Rm,wpAny_typeNameOfWhole_keyiter->Rn,wpAny_holding->Rq,wpAny_mono->Rz,assignEach->RA,bootBuiltins->RB,tupleKind_room_in1->RF,wpAny_typeNameOf_itemiter->RM,wpAny_truthy_bool->RP,wpAny_typeNameOf_valiter->RS,wpAny_typeNameOf_keyiter->RX,attributeBase->R1,mem_of_lookup->R3,wpAny_setField->R9,NameKind->Sd,wpAny_field->Sh,wpAny_pyIter_slot->Sq,wpAny_attempt->Sr,dictSetDefault->Sx,wpAny_fieldsOf->Sz,firstArgMember->SB,wpAny_rule->SR,swapsWith->SS
open List renaming getElem?_eq_some_iff->Pg,mem_cons_of_mem->Pj,length_map->Pl,mem_cons_self->Pm,prefix_rfl->Po,mem_append_right->Pp,size_toArray->Pq,getElem?_map->Pu,map_cons->Pv,mem_map->Pw,mem_singleton->Pz,mem_cons->PC,mem_of_getElem?->PD,mem_append->PK,getElem?_set_ne->PQ,map_append->PZ,lookup_cons->P0,all_eq_true->P3,pairwise_cons->P5,range->Qb,prefix_append->Qc,mem_append_left->Qe,take_add_one->Qh,getElem?_append_left->Ql,map_map->Qq,length_cons->Qs,nodup_append->Qx,length_append->QB,length_set->QG,map_congr_left->QI,length_reverse->QJ,take_length->QK,getElem?_append_right->QM,getElem?_set_self->QQ,find?_cons->QS,pairwise_map->Q1,take_append_drop->Q2,mem_filter->Q3,getElem?_cons_succ->Q5,length_take->Q9,getElem?_eq_getElem->Rl,filter_cons->Ro,ext_getElem?->Rt,nodup_cons->Rw,foldl_cons->Rx,getD_eq_getElem?_getD->Ry,all_cons->RC,getElem?_eq_none->RI,mem_of_mem_take->RN,append_nil->RQ,reverse_perm->RT,toArray->RZ,any_cons->R4,pairwise_singleton->R7,replicate->R8,nodup_nil->Sa,lookup->Sf,pairwise_reverse->Sn,length_drop->SD,cons_append->SF,any_eq_true->SH,map_reverse->SJ,filterMap_cons->SK
open PySem.W renaming Frag->Pi,findIn->Qo,kia_one->Qt,emptyDict->QV,fnOf->Ra,keepIn->Rh,instObj->Rv,mg_of->R6,plainGet->SC,codeIn->SX,nsIn->SY
open Nat renaming le_refl->Pk,lt_of_lt_of_le->PN,le_trans->P6,zero_le->P8,ne_of_lt->Qd,lt_or_eq_of_le->Q7,lt_irrefl->Rg,le_succ->RK,le_of_lt->RY,le_succ_of_le->Ss,ne_of_gt->SQ,min_eq_left->SV
open PySem.Heap renaming get?_push_of_some->Pn,get?_push_size->Pr,lt_size->Py,get?_update_self->QF,SameBut->QN,size_push->Sv
open Bool renaming false_ne_true->Px,and_eq_true->PF,false_eq_true->Qk,eq_iff_iff->Rk,beq_eq_decide_eq->So
open Option renaming map_eq_some_iff->PB,isSome_map->QY,isSome_some->RD,map_some->RW
open PySem.Str renaming ofString->PM
open Option.some renaming inj->PP
open PySem.Heap.SameBut renaming update->PR
open PySem.Value renaming none->PU,ref->P7
open PySem.Builtin.Dict_items renaming ownsTuple->P9,newIterator->R0,dictOf->Sy
open PySem.Paired renaming length->Qi
open PySem.NameKind renaming free->Qj,cell->SU
open PyProof.Rows renaming slot_tuple_getitem->Qn,callWith_type1->Sg,mirror_perm->Sl
open PySem.F renaming slot_dict_get->Qp,slot_dict_itemiterator_next->Qv,slot_dict_keyiterator_next->QC,plainAttrs_dict->QL,slot_dict_valueiterator_next->QO,entry_dict_get->QR,args_dict_get_2->R5,slot_dict_setdefault->Se
open PySem.Obj renaming mapSeq->Qw,data_mapDictKeys->Rp,mapFields->Rr,data_mapFields->RG,isFreed_of_fields->Sm
open PySem.Builtin.Tuple renaming tupleHashOf->Qy,tupleExact->RR,tupleItemsOf->Su
open Array renaming getElem?_eq_none->QA,getElem?_eq_getElem->QT,getElem?_toList->RJ,length_toList->SL
open PySem.Builtin.Dict renaming showsAll->QH,noArgs->SM
open List.Nodup renaming length_le_of_subset->QP
open True renaming intro->QW
open Classical renaming propDecidable->Q6
open False renaming elim->Re
open Int renaming toNat_natCast->Rf
open Ne renaming symm->Ri
open Sum renaming inr->Ru
open PySem.Builtin.Slice renaming slicePlaces->RL,sliceAdjust->Sw
open List.Perm renaming eq_of_pairwise->RU
open PySem.Calls renaming callWith_builtin->Sb
open PySem.Txt renaming slice->Si
open PySem.Builtin.Str renaming strSliceIndices->Sj
open Array.Perm renaming refl->Sk
set_option Elab.async false
set_option linter.all false
set_option maxRecDepth 1000000
set_option maxHeartbeats 4000000
set_option bootstrap.genMatcherCode false
set_option hygiene false
noncomputable section
set_option genSizeOf false
local macro_rules|`(tactic|omega)=>`(tactic|lia)
local macro_rules|`(def $i:declId $s:optDeclSig $v:declVal)=>`(noncomputable def $i:declId $s:optDeclSig $v:declVal)
set_option tactic.hygienic false
namespace L2
open PySem PySem.Spec PyProof.Rows
abbrev Key:=Sum Int Str
def rA:Key->Value->Bool
 |.inl k,v=>Value.isInt k v
 |.inr x,v=>Value.isStrOf x v
def Ir(w:World):Key->Int
 |.inl k=>hashInt k
 |.inr x=>hashStr w x
theorem aY:∀{k:Key}{v:Value},rA k v=true->(∃i t,k=Sum.inl i/\v=Value.int i t)\/(∃x t,k=Ru x/\v=Value.str x t)
 |.inl i,v,h=>by
  obtain⟨t,e⟩:=Value.isInt_shape (k:=i) (v:=v) h;exact .inl ⟨i,t,rfl,e⟩
 |.inr x,v,h=>by
  obtain⟨t,e⟩:=Value.isStrOf_shape (x:=x) (v:=v) h;exact .inr ⟨x,t,rfl,e⟩
theorem Cc(i:Int)(t:Tok):rA (.inl i) (.int i t)=true:=by simp[rA,Value.isInt]
theorem Cd(x:Str)(t:Tok):rA (.inr x) (.str x t)=true:=by simp[rA,Value.isStrOf]
theorem Iu(a b:Int):decide ((Sum.inl a:Key)=Sum.inl b)=(a == b):=by
 by_cases e:a=b
 ·subst e;simp
 ·have h:¬ (Sum.inl a:Key)=Sum.inl b:=λq=>e (Sum.inl.inj q);rw[decide_eq_false h];exact(beq_eq_false_iff_ne.mpr e).symm
theorem Iv(a b:Str):decide ((Ru a:Key)=Ru b)=decide (a=b):=by
 by_cases e:a=b
 ·subst e;simp
 ·have h:¬ (Ru a:Key)=Ru b:=λq=>e (Sum.inr.inj q);rw[decide_eq_false h,decide_eq_false e]
theorem Iw(a:Int)(b:Str):decide ((Sum.inl a:Key)=Ru b)=false:=decide_eq_false (λq=>nomatch q)
theorem Iy(a:Str)(b:Int):decide ((Ru a:Key)=Sum.inl b)=false:=decide_eq_false (λq=>nomatch q)
def aP(prog:Program)(w:World):PySem.KeyKind prog w Key where
 is:=rA
 hash:=Ir w
 inj:=λv a b ha hb=>by
  rcases aY ha with⟨i,t,rfl,rfl⟩|⟨x,t,rfl,rfl⟩
  ·rcases aY hb with⟨j,u,rfl,e⟩|⟨y,u,rfl,e⟩
   ·injection e with e1 _;rw[e1]
   ·exact nomatch e
  ·rcases aY hb with⟨j,u,rfl,e⟩|⟨y,u,rfl,e⟩
   ·exact nomatch e
   ·injection e with e1 _;rw[e1]
 byValue:=λk v h=>by
  rcases aY h with⟨i,t,rfl,rfl⟩|⟨x,t,rfl,rfl⟩ <;> rfl
 pyHash:=λhv h=>by
  rcases aY hv with⟨i,t,rfl,rfl⟩|⟨x,t,rfl,rfl⟩
  ·exact wpAny_pyHash_int h
  ·exact wpAny_pyHash_str h
 eqBool:=λhu hv h=>by
  rcases aY hu with⟨i,t,rfl,rfl⟩|⟨x,t,rfl,rfl⟩
  ·rcases aY hv with⟨j,u,rfl,rfl⟩|⟨y,u,rfl,rfl⟩
   ·rw[Iu]at h;exact wpAny_eqBool_int h
   ·rw[Iw]at h;exact SeqAt.EqAt.int_str i t y u _ _ _ _ h
  ·rcases aY hv with⟨j,u,rfl,rfl⟩|⟨y,u,rfl,rfl⟩
   ·rw[Iy]at h;exact SeqAt.EqAt.str_int x t j u _ _ _ _ h
   ·rw[Iv]at h;exact wpAny_eqBool_str h
 «strs»:=λk x t v h=>by
  rcases aY h with⟨i,u,rfl,e⟩|⟨y,u,rfl,e⟩
  ·exact nomatch e
  ·injection e with e1 _;subst e1;cases v <;> rfl
theorem yE(prog:Program)(w:World)(i:Int)(t:Tok):(aP prog w).is (.inl i) (.int i t)=true:=Cc i t
theorem pR(prog:Program)(w:World)(x:Str)(t:Tok):(aP prog w).is (.inr x) (.str x t)=true:=Cd x t
inductive V where
 |non|bl (b:Bool)|int (i:Int)|str (x:Str)|byt (b:Array UInt8)|flt (b:UInt64)|ref (a:Addr)|ty (n:String)
 deriving DecidableEq
def RelV:V->Value->Prop
 |.non,u=>u=PU
 |.bl b,u=>u=Value.bool b
 |.int i,u=>∃t,u=Value.int i t
 |.str x,u=>∃t,u=Value.str x t
 |.byt b,u=>∃t,u=Value.bytes b t
 |.flt b,u=>∃t,u=Value.float b t
 |.ref a,u=>u=P7 a
 |.ty n,u=>u=Value.type n
abbrev aJ:List V->List Value->Prop:=Paired RelV
variable{us:List Value}
theorem aJ.length{xs:List V}(r:aJ xs us):xs.length=us.length:=Qi r
theorem aJ.get:∀{xs:List V}{us:List Value}{i:Nat}{x:V},aJ xs us->xs[i]?=some x->∃u,us[i]?=some u/\RelV x u
 |_,_,_,_,.nil,e=>by simp at e
 |_,_,0,_,.cons r _,e=>by simp at e;subst e;exact⟨_,rfl,r⟩
 |_,_,i+1,x,.cons _ t,e=>by
  obtain⟨u,h1,h2⟩:=aJ.get (i:=i) (x:=x) t (by simpa using e)
  exact⟨u,by simpa using h1,h2⟩
variable{u:Value}
theorem aJ.set{x:V}(r:RelV x u):∀{xs:List V}{us:List Value}(i:Nat),aJ xs us->aJ (xs.set i x) (us.set i u)
 |_,_,_,.nil=>.nil
 |_,_,0,.cons _ t=>.cons r t
 |_,_,i+1,.cons q t=>.cons q (aJ.set r i t)
theorem aJ.append:∀{xs ys:List V}{us ws:List Value},aJ xs us->aJ ys ws->aJ (xs++ys) (us++ws)
 |_,_,_,_,.nil,s=>s
 |_,_,_,_,.cons r t,s=>.cons r (aJ.append t s)
theorem aJ.take:∀{xs:List V}{us:List Value}(n:Nat),aJ xs us->aJ (xs.take n) (us.take n)
 |_,_,0,_=>.nil
 |_,_,_+1,.nil=>.nil
 |_,_,n+1,.cons r t=>.cons r (aJ.take n t)
theorem aJ.drop:∀{xs:List V}{us:List Value}(n:Nat),aJ xs us->aJ (xs.drop n) (us.drop n)
 |_,_,0,r=>r
 |_,_,_+1,.nil=>.nil
 |_,_,n+1,.cons _ t=>aJ.drop n t
def iU:Option V->Option Value->Prop
 |some v,some u=>RelV v u
 |none,none=>True
 |_,_=>False
def KV{κ:Type}:List (κ×V)->List (κ×Value)->Prop:=Paired λ(p:κ×V)(q:κ×Value)=>p.1=q.1/\RelV p.2 q.2
def kV:Key->V
 |.inl i=>.int i
 |.inr x=>.str x
inductive HO where
 /-- a list -/
 |lst (xs:List V)
 /-- a tuple (never changes) -/
 |tup (xs:List V)
 /-- a dict whose keys are ints and texts;one whose keys are tuples of ints and texts (the empty one is both) -/
 |dK (kvs:List (Key×V))|dT (kvs:List (List Key×V))
 /-- a set of ints: its members,its size -/
 |set (S:Int->Bool) (n:Nat)
 /-- an instance of the class at C,its dict at dx,its attributes -/
 |ins (C dx:Addr) (fs:List (Str×V))
 /-- the dict of the instance at x -/
 |own (x:Addr)
 /-- the dict of an exception -/
 |xd (fs:List (Str×V))
 /-- a bound method,f of x -/
 |met (f x:Addr)
 /-- a range object lo,lo+1,.. below hi -/
 |rng (lo hi:Int)
 /-- a thing that is known to the object (the script;a dict while a loop walks it): read,never written while it is so -/
 |frz (o:Obj) (u:HO)
 /-- a code object's table -/
 |tbl (ps:Array Value)
 /-- any other thing,by what is true of its one object (a def of one's own: SetO a S n:=HO.ext λh=>..) -/
 |ext (φ:Heap->Prop)
abbrev Hp:=Addr->Option HO
def upd(H:Hp)(a:Addr)(o:HO):Hp:=λb=>if b=a then some o else H b
variable{H:Hp}{a:Addr}
theorem aI{o:HO}:upd H a o a=some o:=by unfold upd;rw[if_pos rfl]
theorem aE{b:Addr}{o:HO}(h:b≠a):upd H a o b=H b:=by unfold upd;rw[if_neg h]
theorem KH{b:Addr}{o u:HO}(h:H a=some o)(h':H b=some u)(d:o≠u):a≠b:=by
 intro e;subst e;rw[h]at h';exact d (PP h')
theorem cB{b:Addr}{o:HO}(h:H a=some o)(h':H b=none):a≠b:=by
 intro e;subst e;rw[h]at h';cases h'
def rB(h:Heap)(a:Addr)(items:Array Value):Prop:=∃o,h.get? a=some o/\o.cls=.type "tuple" /\ (∃n,o.data=.seq items n)/\o.dict=none
variable{items:Array Value}
theorem rB.is{h:Heap}(x:rB h a items):PyProof.Rows.IsTup h a items:=let ⟨o,h1,h2,h3,_⟩:=x;⟨o,h1,h2,h3⟩
theorem rB.lt{h:Heap}(x:rB h a items):a<h.objs.size:=let ⟨_,h1,_⟩:=x;Py h1
theorem rB.new(h:Heap)(items:Array Value):rB (h.push { cls:=.type "tuple",data:=.seq items 0 }) h.objs.size items:=⟨_,Pr _ rfl,rfl,⟨_,rfl⟩,rfl⟩
section
variable(P:Program)(w:World)
def aZ(H:Hp)(h:Heap)(a:Addr):HO->Prop
 |.lst xs=>xs.length<=Pt/\∃(its:List Value)(n:Nat),aJ xs its/\h.get? a=some { cls:=.type "list",data:=.seq its.toArray n }
 |.tup xs=>xs.length<=Pt/\∃its:List Value,aJ xs its/\rB h a its.toArray
 |.dK kvs=>kvs.length<=Pt/\(a == Qm)=false/\∃vs,KV kvs vs/\h.DictOf (aP P w) a vs
 | .dT kvs=>kvs.length<=Pt/\(a == Qm)=false/\∃ xs:List (List Key×Addr×Value),
   Paired (λ(p:List Key×V)(q:List Key×Addr×Value)=>p.1=q.1/\H q.2.1=some (.tup (p.1.map kV))/\RelV p.2 q.2.2) kvs xs/\
   ∃o es ep,h.get? a=some o/\o.ExactDict/\o.data=.dict es ep/\es.toList=xs.map (entryOfKey (tupleKind (aP P w)))/\(xs.map (·.1)).Nodup
 |.set S n=>h.SetOf (intKind P w) a S n
 | .ins C dx fs=>H dx=some (.own a)/\fs.length<=1000/\dx≠a/\h.get? a=some (Rv C dx)/\
   ∃mA,h.Ns1 dx mA/\(∀f,iU (fs.lookup f) (mA f))/\PySem.Within mA (fs.map (·.1))
 |.own _=>∃o,h.get? a=some o
 |.xd fs=>∃mA,h.Ns1 a mA/\∀f,iU (fs.lookup f) (mA f)
 |.rng lo hi=>∃t u v,h.get? a=some { cls:=.type "range",data:=.fields #[.int lo t,.int hi u,.int 1 v] }
 |.frz o u=>h.get? a=some o/\aZ H h a u
 |.tbl ps=>h.get? a=some { cls:=.none,data:=.fields ps }
 |.met f x=>h.get? a=some (PySem.W.methodObj (.ref f) (.ref x))
 |.ext φ=>φ h/\(∃o,h.get? a=some o)/\∀h1 h2:Heap,φ h1->(∀o,h1.get? a=some o->h2.get? a=some o)->φ h2
def HOk(H:Hp)(h:Heap):Prop:=∀a o,H a=some o->aZ P w H h a o
end
variable{P:Program}{w:World}
theorem aZ.lt{h:Heap}{o:HO}(x:aZ P w H h a o):a<h.objs.size:=by
 cases o with
 |lst xs=>obtain⟨_,_,_,_,e⟩:=x;exact Py e
 |tup xs=>obtain⟨_,_,_,p⟩:=x;exact rB.lt p
 |dK kvs=>obtain⟨_,_,_,_,o,_,_,e,_⟩:=x;exact Py e
 |dT kvs=>obtain⟨_,_,_,_,o,_,_,e,_⟩:=x;exact Py e
 |set S n=>obtain⟨o,_,_,_,e,_⟩:=x;exact Py e
 |ins C dx fs=>obtain⟨_,_,_,e,_⟩:=x;exact Py e
 |own y=>obtain⟨_,e⟩:=x;exact Py e
 |xd fs=>obtain⟨_,⟨_,_,_,e,_⟩,_⟩:=x;exact Py e
 |rng lo hi=>obtain⟨_,_,_,e⟩:=x;exact Py e
 |frz ob u=>obtain⟨e,_⟩:=x;exact Py e
 |tbl ps=>exact Py (show h.get? a=some _ from x)
 |met f y=>exact Py (show h.get? a=some _ from x)
 |ext φ=>obtain⟨_,⟨_,e⟩,_⟩:=x;exact Py e
theorem Paired.mapP{α β:Type}{F G:α->β->Prop}:∀{l₁:List α}{l₂:List β},Paired F l₁ l₂->(∀a b,F a b->G a b)->Paired G l₁ l₂
 |_,_,.nil,_=>.nil
 |_,_,.cons r t,f=>.cons (f _ _ r) (Paired.mapP t f)
variable{H':Hp}{h':Heap}
theorem aZ.stay{h:Heap}{o:HO}(x:aZ P w H h a o)(k:∀b u,(b=a\/H b=some (.own a))->h.get? b=some u->h'.get? b=some u)(ho:∀b,H b=some (.own a)->H' b=some (.own a))(ht:∀b xs,H b=some (.tup xs)->H' b=some (.tup xs)):aZ P w H' h' a o:=by
 induction o with
 |lst xs=>obtain⟨z,its,n,r,e⟩:=x;exact⟨z,its,n,r,k _ _ (.inl rfl) e⟩
 |tup xs=>obtain⟨z,its,r,ob,e,c⟩:=x;exact⟨z,its,r,ob,k _ _ (.inl rfl) e,c⟩
 |dK kvs=>obtain⟨z,y,vs,r,ob,es,ep,e,c⟩:=x;exact⟨z,y,vs,r,ob,es,ep,k _ _ (.inl rfl) e,c⟩
 |dT kvs=>
  obtain⟨z,y,xs,r,ob,es,ep,e,c⟩:=x;exact⟨z,y,xs,Paired.mapP r λp q z=>⟨z.1,ht _ _ z.2.1,z.2.2⟩,ob,es,ep,k _ _ (.inl rfl) e,c⟩
 |set S n=>obtain⟨ob,es,ep,t,e,c⟩:=x;exact⟨ob,es,ep,t,k _ _ (.inl rfl) e,c⟩
 |ins C dx fs=>
  obtain⟨d,z,ne,e,mA,⟨od,es,ep,e2,c⟩,r⟩:=x;exact⟨ho _ d,z,ne,k _ _ (.inl rfl) e,mA,⟨od,es,ep,k _ _ (.inr d) e2,c⟩,r⟩
 |own y=>obtain⟨ob,e⟩:=x;exact⟨ob,k _ _ (.inl rfl) e⟩
 |xd fs=>obtain⟨mA,⟨od,es,ep,e,c⟩,r⟩:=x;exact⟨mA,⟨od,es,ep,k _ _ (.inl rfl) e,c⟩,r⟩
 |rng lo hi=>obtain⟨t,u,v,e⟩:=x;exact⟨t,u,v,k _ _ (.inl rfl) e⟩
 |frz ob u ih=>obtain⟨e,q⟩:=x;exact⟨k _ _ (.inl rfl) e,ih q⟩
 |tbl ps=>
  have e:h.get? a=some { cls:=.none,data:=.fields ps }:=x
  show h'.get? a=some { cls:=.none,data:=.fields ps }
  exact k a _ (.inl rfl) e
 |met f y=>
  have e:h.get? a=some (PySem.W.methodObj (.ref f) (.ref y)):=x
  show h'.get? a=some (PySem.W.methodObj (.ref f) (.ref y))
  exact k a _ (.inl rfl) e
 |ext φ=>obtain⟨p,⟨o,e⟩,st⟩:=x;exact⟨st _ _ p λo q=>k _ _ (.inl rfl) q,⟨o,k _ _ (.inl rfl) e⟩,st⟩
theorem HOk.lt{h:Heap}{o:HO}(x:HOk P w H h)(e:H a=some o):a<h.objs.size:=(x a o e).lt
theorem HOk.fresh{h:Heap}(x:HOk P w H h)(e:h.objs.size<=a):H a=none:=by
 cases q:H a with
 |none=>rfl
 |some u=>exact absurd (PN (x.lt q) e) (Rg _)
theorem HOk.kept{h:Heap}(x:HOk P w H h)(k:∀b u,h.get? b=some u->h'.get? b=some u):HOk P w H h':=λa o e=>
 (x a o e).stay (λb u _ q=>k b u q) (λ_ q=>q) λ_ _ q=>q
theorem HOk.laid{h:Heap}{o:HO}(x:HOk P w H h)(k:∀b u,h.get? b=some u->h'.get? b=some u)(hp:h.objs.size<=a)(new:aZ P w (upd H a o) h' a o):HOk P w (upd H a o) h':=λb u e=>by
 have hn:=x.fresh hp
 by_cases hb:b=a
 ·subst hb;rw[aI]at e;cases e;exact new
 ·rw[aE hb]at e;exact(x b u e).stay (λc v _ q=>k c v q) (λc q=>by rw[aE (cB q hn)];exact q) λc xs q=>by rw[aE (cB q hn)];exact q
def Rd(H:Hp)(a:Addr)(u:HO):Prop:=H a=some u\/∃o,H a=some (.frz o u)
theorem Rd.ok{h:Heap}{u:HO}(r:Rd H a u)(x:HOk P w H h):aZ P w H h a u:=by
 rcases r with r|⟨o,r⟩
 ·exact x a u r
 ·obtain⟨_,q⟩:=x a _ r;exact q
def Mut:Option HO->Prop
 |some (.lst _)=>True
 |some (.dK _)=>True
 |some (.dT _)=>True
 |some (.set _ _)=>True
 |some (.ins _ _ _)=>True
 |some (.ext _)=>True
 |_=>False
section
variable{h:Heap}{x e:Addr}{o':HO}
theorem HOk.write(ok:HOk P w H h)(mu:Mut (H x))(he:e=x\/H e=some (.own x))(k:∀b u,b≠e->h.get? b=some u->h'.get? b=some u)(l8:∃u,h'.get? e=some u)
  (new:aZ P w (upd H x o') h' x o'):HOk P w (upd H x o') h':=λb u q=>by
 have o9:∀c y,H c=some (.own y)->c≠x:=λc y r z=>by subst z;rw[r]at mu;exact mu
 have uv:∀c xs,H c=some (.tup xs)->c≠x:=λc xs r z=>by subst z;rw[r]at mu;exact mu
 by_cases hb:b=x
 ·subst hb;rw[aI]at q;cases q;exact new
 ·rw[aE hb]at q
  by_cases hbe:b=e
  ·have q':H b=some (.own x):=by
    rcases he with z|z
    ·exact absurd (hbe.trans z) hb
    ·rw[hbe];exact z
   rw[q]at q';cases q';obtain⟨v,hv⟩:=l8;exact⟨v,by rw[hbe];exact hv⟩
  ·refine(ok b u q).stay (λc v hc r=>k c v ?_ r) (λc r=>by rw[aE (o9 c b r)];exact r) λc xs r=>by rw[aE (uv c xs r)];exact r
   rcases hc with rfl|hc
   ·exact hbe
   ·rintro rfl;rcases he with z|z
    ·exact o9 c b hc z
    ·rw[hc]at z;cases z;exact hb rfl
end
structure Un(fs ex:List Addr)(H H':Hp)(h h':Heap):Prop where
 keep:∀b o,h.get? b=some o->H b=none->b∉fs->b∉ex->h'.get? b=some o
 slot:∀b o,h.get? b=some o->H b=none->b∈fs->b∉ex->∃sl,h'.get? b=some { o with slots:=sl }
 free:∀b o,h.get? b=some o->H b=none->b∉ex->H' b=none
 there:∀b o,h.get? b=some o->b∉ex->∃o',h'.get? b=some o'
 tups:∀b xs,H b=some (.tup xs)->H' b=some (.tup xs)
 frzs:∀b o u,H b=some (.frz o u)->H' b=some (.frz o u)
 tbls:∀b ps,H b=some (.tbl ps)->∃more,H' b=some (.tbl (ps++more))
variable{H1:Hp}{ex:List Addr}{ob:Obj}
section
variable{fs j3 ex':List Addr}{h h1 h2:Heap}{x e:Addr}{o:HO}
theorem Un.any(u:Un fs ex H H1 h h1){b:Addr}(q:h.get? b=some ob)(n:H b=none)(hx:b∉ex):∃sl,h1.get? b=some { ob with slots:=sl }:=by
 by_cases hb:b∈fs
 ·exact u.slot b ob q n hb hx
 ·exact⟨ob.slots,u.keep b ob q n hb hx⟩
theorem Un.kept(k:∀b u,h.get? b=some u->h'.get? b=some u):Un fs ex H H h h':=
 ⟨λb ob q _ _ _=>k b ob q,λb ob q _ _ _=>⟨ob.slots,k b ob q⟩,λ_ _ _ n _=>n,λb ob q _=>⟨ob,k b ob q⟩,λ_ _ q=>q,λ_ _ _ q=>q,λ_ ps q=>⟨#[],by rw[q];simp⟩⟩
theorem Un.refl:Un fs ex H H h h:=Un.kept λ_ _ q=>q
theorem Un.laid(k:∀b u,h.get? b=some u->h'.get? b=some u)(hp:h.objs.size<=a)(hn:H a=none):Un fs ex H (upd H a o) h h' where
 keep:=λb u q _ _ _=>k b u q
 slot:=λb u q _ _ _=>⟨u.slots,k b u q⟩
 free:=λb u q n _=>by rw[aE (Qd (PN (Py q) hp))];exact n
 there:=λb u q _=>⟨u,k b u q⟩
 tups:=λb xs q=>by rw[aE (cB q hn)];exact q
 frzs:=λb u xs q=>by rw[aE (cB q hn)];exact q
 tbls:=λb ps q=>⟨#[],by rw[aE (cB q hn),q];simp⟩
theorem Un.write(mu:Mut (H x))(he:e=x\/H e=some (.own x))(k:∀b u,b≠e->h.get? b=some u->h'.get? b=some u)(l8:∃u,h'.get? e=some u):Un fs ex H (upd H x o) h h':=by
 have hx:∀b,H b=none->b≠x:=λb n z=>by subst z;rw[n]at mu;exact mu
 have hb:∀b,H b=none->b≠e:=λb n z=>by
  subst z;rcases he with r|r
  ·exact hx b n r
  ·rw[n]at r;cases r
 have hm:∀b u,H b=some u->¬ Mut (some u)->b≠x:=λb u q nm z=>by subst z;rw[q]at mu;exact nm mu
 refine⟨λb u q n _ _=>k b u (hb b n) q,λb u q n _ _=>⟨u.slots,k b u (hb b n) q⟩,λb u q n _=>by rw[aE (hx b n)];exact n,λb u q _=>?_,
  λb xs q=>by rw[aE (hm b _ q λz=>z)];exact q,λb u xs q=>by rw[aE (hm b _ q λz=>z)];exact q,λb ps q=>⟨#[],by rw[aE (hm b _ q λz=>z),q];simp⟩⟩
 by_cases hbe:b=e
 ·subst hbe;exact l8
 ·exact⟨u,k b u hbe q⟩
end
def trk(h:Heap)(H:Hp):List Addr:=(Qb h.objs.size).filter λa=>(H a).isSome
def vU(h:Heap)(H:Hp):Heap:=PySem.W.hideAll h (trk h H)
theorem Ce(h:Heap)(H:Hp):(vU h H).objs.size=h.objs.size:=PySem.W.hideAll_size _ _
theorem Du{h:Heap}{b:Addr}{o:Obj}(e:h.get? b=some o)(n:H b=none):(vU h H).get? b=some o:=
 PySem.W.hideAll_get _ e λhm=>by
  have q:(H b).isSome=true:=(Q3.mp hm).2;rw[n]at q;simp at q
theorem FY{h:Heap}{b:Addr}{o:Obj}(e:(vU h H).get? b=some o):h.get? b=some o/\H b=none:=by
 have e':h.get? b=some o:=PySem.W.of_hideAll (trk h H) e;refine⟨e',?_⟩;cases q:H b with
 |none=>rfl
 |some x=>
  have hm:b∈trk h H:=Q3.mpr ⟨List.mem_range.mpr (Py e'),by simp[q]⟩;have z:(vU h H).get? b=none:=PySem.W.hideAll_none (trk h H) hm;rw[z]at e;cases e
def FZ(g h:Heap)(L:Addr):List (Addr×Obj):=(Qb h.objs.size).filterMap λa=>if a=L\/(g.get? a).isSome=true then none else(h.get? a).map λo=>(a,o)
def rest(g h:Heap)(L d:Addr):List (Addr×Obj):=(FZ g h L).filter λp=>decide (p.1≠d)
structure Mod(K:Pi)(mg:Str->Option Value)(base:Heap):Prop where
 kin:K.In base
 glob:base.Ns Qz mg
 blt:∃mb,base.Ns builtinsNs mb/\∀x:Str,x≠"__name__" -> mb x=RB x
 nolimit:base.NoLimit
structure Cx where
 prog:Program
 w:World
 K:Pi
 mg:Str->Option Value
 base:Heap
 A:Around
 N:List Str
 s₀:Shared
 H₀:Hp
 env:Env
 outer:List Env
 stack:List Env
 ex:List Addr
 fn:Str->Bool
 calm:Bool
 pn:List (Addr×Obj)
 xe:Value->Shared->Prop
def frs(l:List Env):List Addr:=l.filterMap (·.frame)
abbrev Cx.fs(X:Cx):List Addr:=frs X.outer
def Vis(sc:Scope)(x:Str):Prop:=sc.names.lookup x=some .local\/sc.names.lookup x=some .cell\/sc.names.lookup x=some .free
def Loc(sc:Scope)(x:Str):Prop:=sc.names.lookup x=some .local\/sc.names.lookup x=some .cell
def Look(env:Env)(h:Heap)(m:Str->Option Value)(x:Str)(u:Value):Prop:=
 (env.kindOf x=some .local/\m x=some u)\/((env.kindOf x=some .cell\/env.kindOf x=some .free)/\∃c,env.cells.lookup x=some c/\h.IsCell c (some u))
structure Cx.Ok(X:Cx):Prop where
 mod:Mod X.K X.mg X.base
 kind:X.env.scope.kind=.function
 glob:X.env.globals=Qz
 blt:X.env.builtins=builtinsNs
 above:X.s₀.heap.objs.size<=X.env.locals
 inj:∀x y c,X.env.cells.lookup x=some c->X.env.cells.lookup y=some c->x=y
 has:∀x,(X.env.kindOf x=some .cell\/X.env.kindOf x=some .free)->∃c,X.env.cells.lookup x=some c
 cab:∀x c,X.fn x=true->X.env.cells.lookup x=some c->X.s₀.heap.objs.size<=c
 hd:X.calm=true->X.A.handled=none
 frames:X.A.frames=some X.stack
 stk:X.stack=X.outer\/(X.stack=X.env::X.outer/\X.env.frame=some X.env.locals)
 exf:∀b∈X.ex,b≠X.env.locals/\∀x c,X.env.cells.lookup x=some c->c≠b
 bs:∀b o,X.base.get? b=some o->X.s₀.heap.get? b=some o/\X.H₀ b=none
 bsz:X.base.objs.size<=X.s₀.heap.objs.size
 noex:∀b o,X.base.get? b=some o->b∉X.ex
 exfs:∀b∈X.ex,b∉X.fs
 funs:X.s₀.heap.FunFrames X.base X.outer
 frf:∀b∈X.fs,X.H₀ b=none
structure Inv(X:Cx)(pins:List (Addr×Obj))(σ:List (Option V))(H:Hp)(s:Shared):Prop where
 ok:X.Ok
 os:s.os=X.s₀.os
 bare:AllBare s.gens
 base:Un X.fs X.ex X.H₀ H X.s₀.heap s.heap
 loc:∃m,s.heap.Ns X.env.locals m/\∀(i:Nat)(x:Str)(v:V),X.N[i]?=some x->σ[i]?=some (some v)->Vis X.env.scope x->∃u,RelV v u/\Look X.env s.heap m x u
 cell:∀x c,X.env.cells.lookup x=some c->∃v,s.heap.IsCell c v
 free:H X.env.locals=none
 freeC:∀x c,X.env.cells.lookup x=some c->H c=none
 pin:∀p∈X.pn++pins,s.heap.get? p.1=some p.2/\H p.1=none/\p.1≠X.env.locals/\p.1∉X.fs/\∀v,p.2.data≠.cell v
 hok:HOk X.prog X.w H s.heap
 len:σ.length=X.N.length
variable{X:Cx}
theorem Cx.Ok.nofr(ok:X.Ok){b:Addr}{o:Obj}(e:X.base.get? b=some o):b∉X.fs:=λhb=>by
 have:=(ok.funs.mem hb).1;rw[e]at this;cases this
variable{pins:List (Addr×Obj)}{s:Shared}
theorem Inv.bs{σ:List (Option V)}(I:Inv X pins σ H s):∀b o,X.base.get? b=some o->s.heap.get? b=some o/\H b=none:=λb o e=>
 ⟨I.base.keep b o (I.ok.bs b o e).1 (I.ok.bs b o e).2 (I.ok.nofr e) (I.ok.noex b o e),I.base.free b o (I.ok.bs b o e).1 (I.ok.bs b o e).2 (I.ok.noex b o e)⟩
theorem Inv.bk{σ:List (Option V)}(I:Inv X pins σ H s):∀b o,X.base.get? b=some o->s.heap.get? b=some o:=λb o e=>(I.bs b o e).1
theorem Inv.mod{σ:List (Option V)}(I:Inv X pins σ H s):Mod X.K X.mg X.base:=I.ok.mod
theorem Inv.kIn{σ:List (Option V)}(I:Inv X pins σ H s):X.K.In s.heap:=I.ok.mod.kin.keeps I.bk
theorem Inv.lt{σ:List (Option V)}(I:Inv X pins σ H s):X.env.locals<s.heap.objs.size:=let ⟨_,hn,_⟩:=I.loc;hn.lt
theorem Inv.sz{σ:List (Option V)}(I:Inv X pins σ H s):X.s₀.heap.objs.size<=s.heap.objs.size:=P6 I.ok.above (RY I.lt)
theorem Inv.nofs{σ:List (Option V)}(I:Inv X pins σ H s)(h:s.heap.objs.size<=a):a∉X.fs:=λhb=>by
 obtain⟨_,o,ho,_⟩:=I.ok.funs.mem hb;exact absurd (PN (Py ho) (P6 I.sz h)) (Rg _)
theorem Inv.cne{σ:List (Option V)}(I:Inv X pins σ H s):∀x c,X.env.cells.lookup x=some c->c≠X.env.locals:=λx c e z=>by
 obtain⟨v,o,ho,hd⟩:=I.cell x c e;obtain⟨m,⟨o',es,ep,cp,dq,_⟩,_⟩:=I.loc;rw[z,cp]at ho;cases ho;rw[dq]at hd;cases hd
theorem Inv.funs{σ:List (Option V)}(I:Inv X pins σ H s):s.heap.FunFrames X.base X.outer:=by
 have all:∀(l:List Env),(∀b∈frs l,b∈X.fs)->X.s₀.heap.FunFrames X.base l->s.heap.FunFrames X.base l:=by
  intro l
  induction l with
  |nil=>intro _ _;trivial
  |cons env r ih=>
   intro hs hl;obtain⟨hk,⟨L,o,hf,hn,ho,hd⟩,hr⟩:=hl;have hL:L∈X.fs:=hs L (by unfold frs;rw[SK,hf];exact Pm);obtain⟨sl,e⟩:=I.base.slot L o ho (I.ok.frf L hL) hL λz=>I.ok.exfs L z hL;exact⟨hk,⟨L,_,hf,hn,e,hd⟩,ih (λb hb=>hs b (by unfold frs;rw[SK,hf];exact Pj _ hb)) hr⟩
 exact all X.outer (λ_ hb=>hb) I.ok.funs
theorem Inv.stack{σ:List (Option V)}(I:Inv X pins σ H s):s.heap.FunFrames X.base X.stack:=by
 rcases I.ok.stk with e|⟨e,hf⟩
 ·rw[e];exact I.funs
 ·rw[e];obtain⟨m,hn,_⟩:=I.loc;refine .cons (by rw[I.ok.kind];decide) hf hn ?_ I.funs;exact Heap.get?_none_of_le (P6 I.ok.bsz I.ok.above)
theorem Inv.stkSub{σ:List (Option V)}(I:Inv X pins σ H s):∀b∈frs X.stack,b∈X.env.locals::X.fs:=λb hb=>by
 rcases I.ok.stk with e|⟨e,hf⟩
 ·rw[e]at hb;exact Pj _ hb
 ·rw[e]at hb;unfold frs at hb;rw[SK,hf]at hb;exact hb
theorem Inv.stkFree{σ:List (Option V)}(I:Inv X pins σ H s):∀b∈frs X.stack,H b=none:=λb hb=>by
 rcases PC.mp (I.stkSub b hb) with e|hb
 ·rw[e];exact I.free
 ·obtain⟨_,o,ho,_⟩:=I.ok.funs.mem hb;exact I.base.free b o ho (I.ok.frf b hb) λz=>I.ok.exfs b z hb
variable{ch:List Addr}{d':Drawn}{g':Array GenState}{t':Nat}
theorem Inv.step{σ:List (Option V)}(I:Inv X pins σ H s)(g8:∀b∈ch,(b∈X.ex\/X.s₀.heap.objs.size<=b)/\b≠X.env.locals/\(∀x c,X.env.cells.lookup x=some c->c≠b)/\∀p∈X.pn++pins,p.1≠b)(keep:∀b o,b≠X.env.locals->b∉X.fs->b∉ch->s.heap.get? b=some o->H b=none->h'.get? b=some o)(slot:∀b o,b≠X.env.locals->b∈X.fs->b∉ch->s.heap.get? b=some o->H b=none->∃sl,h'.get? b=some { o with slots:=sl })(free:∀b o,b∉ch->s.heap.get? b=some o->H b=none->H' b=none)(there:∀b o,b∉ch->s.heap.get? b=some o->∃o',h'.get? b=some o')(tups:∀b xs,H b=some (.tup xs)->H' b=some (.tup xs))(frzs:∀b o u,H b=some (.frz o u)->H' b=some (.frz o u))(tbls:∀b ps,H b=some (.tbl ps)->∃more,H' b=some (.tbl (ps++more)))(ns:∀m,s.heap.Ns X.env.locals m->h'.Ns X.env.locals m)(hok:HOk X.prog X.w H' h')(hg:AllBare g'):
  Inv X pins σ H' { s with heap:=h',gens:=g',drawn:=d',toks:=t' }:=by
 have v3:∀b o,X.s₀.heap.get? b=some o->b≠X.env.locals:=λb o e=>Qd (PN (Py e) I.ok.above);have p9:∀b o,X.s₀.heap.get? b=some o->b∉X.ex->b∉ch:=λb o e hx hb=>by
  rcases(g8 b hb).1 with z|z
  ·exact hx z
  ·exact absurd (PN (Py e) z) (Rg _)
 have cellK:∀x c,X.env.cells.lookup x=some c->∀v,s.heap.IsCell c v->h'.IsCell c v:=λx c e v ⟨o,ho,hd⟩=>by
  have n9:c∉ch:=λz=>(g8 c z).2.2.1 x c e rfl
  by_cases hc:c∈X.fs
  ·obtain⟨sl,q⟩:=slot c o (I.cne x c e) hc n9 ho (I.freeC x c e);exact⟨_,q,hd⟩
  ·exact⟨o,keep c o (I.cne x c e) hc n9 ho (I.freeC x c e),hd⟩
 refine⟨I.ok,I.os,hg,⟨λb o e n hb hx=>?_,λb o e n hb hx=>?_,λb o e n hx=>?_,λb o e hx=>?_,λb xs e=>tups b xs (I.base.tups b xs e),λb o xs e=>frzs b o xs (I.base.frzs b o xs e),λb ps e=>?_⟩,?_,λx c e=>?_,?_,λx c e=>?_,λp hp=>?_,hok,I.len⟩
 ·exact keep b o (v3 b o e) hb (p9 b o e hx) (I.base.keep b o e n hb hx) (I.base.free b o e n hx)
 ·obtain⟨sl,e1⟩:=I.base.slot b o e n hb hx;obtain⟨yz,e2⟩:=slot b _ (v3 b o e) hb (p9 b o e hx) e1 (I.base.free b o e n hx);exact⟨yz,e2⟩
 ·obtain⟨o',e1⟩:=I.base.there b o e hx;exact free b o' (p9 b o e hx) e1 (I.base.free b o e n hx)
 ·obtain⟨o',e1⟩:=I.base.there b o e hx;exact there b o' (p9 b o e hx) e1
 ·obtain⟨m1,e1⟩:=I.base.tbls b ps e;obtain⟨m2,e2⟩:=tbls b _ e1;exact⟨m1++m2,by rw[e2,Array.append_assoc]⟩
 ·obtain⟨m,hn,hl⟩:=I.loc;refine⟨m,ns m hn,λi x v e1 e2 e3=>?_⟩;obtain⟨u,r,l⟩:=hl i x v e1 e2 e3;refine⟨u,r,?_⟩;rcases l with l|⟨k,c,e,z⟩
  ·exact .inl l
  ·exact .inr ⟨k,c,e,cellK x c e _ z⟩
 ·obtain⟨v,z⟩:=I.cell x c e;exact⟨v,cellK x c e v z⟩
 ·obtain⟨m,⟨o,_,_,ho,_⟩,_⟩:=I.loc;exact free _ o (λz=>(g8 _ z).2.1 rfl) ho I.free
 ·obtain⟨v,o,ho,hd⟩:=I.cell x c e;exact free c o (λz=>(g8 c z).2.2.1 x c e rfl) ho (I.freeC x c e)
 ·obtain⟨e,n,ne,nf,d⟩:=I.pin p hp;have n9:p.1∉ch:=λz=>(g8 p.1 z).2.2.2 p hp rfl;exact⟨keep p.1 p.2 ne nf n9 e n,free p.1 p.2 n9 e n,ne,nf,d⟩
theorem Inv.un{σ:List (Option V)}(I:Inv X pins σ H s)(u:Un X.fs [] H H' s.heap h')(hok:HOk X.prog X.w H' h'):Inv X pins σ H' { s with heap:=h',toks:=t' }:=by
 obtain⟨m,⟨o,es,ep,ho,r⟩,_⟩:=id I.loc;obtain⟨sl,hL⟩:=u.any ho I.free (by simp);exact I.step (g':=s.gens) (d':=s.drawn) (ch:=[]) (λ_ z=>nomatch z) (λb o _ hb _ e n=>u.keep b o e n hb (by simp)) (λb o _ hb _ e n=>u.slot b o e n hb (by simp)) (λb o _ e n=>u.free b o e n (by simp)) (λb o _ e=>u.there b o e (by simp)) u.tups u.frzs u.tbls (λm' hm=>by
  obtain⟨o',e9,e7,cp,r'⟩:=hm;rw[ho]at cp;cases cp;exact⟨_,e9,e7,hL,r'⟩) hok I.bare
theorem Inv.call{σ:List (Option V)}(I:Inv X pins σ H s)(u:Un (frs X.stack) ch H H' s.heap h')(hok:HOk X.prog X.w H' h')(hg:AllBare g')(g8:∀b∈ch,(b∈X.ex\/X.s₀.heap.objs.size<=b)/\b≠X.env.locals/\(∀x c,X.env.cells.lookup x=some c->c≠b)/\∀p∈X.pn++pins,p.1≠b):
  Inv X pins σ H' { s with heap:=h',gens:=g',drawn:=d',toks:=t' }:=by
 obtain⟨m,⟨o,es,ep,ho,r⟩,_⟩:=id I.loc;obtain⟨sl,hL⟩:=u.any ho I.free λz=>(g8 _ z).2.1 rfl;exact I.step (ch:=ch) g8 (λb o hL hb hc e n=>u.keep b o e n (λz=>(PC.mp (I.stkSub b z)).elim hL hb) hc) (λb o _ _ hc e n=>u.any e n hc) (λb o hc e n=>u.free b o e n hc) (λb o hc e=>u.there b o e hc) u.tups u.frzs u.tbls (λm' hm=>by
  obtain⟨o',e9,e7,cp,r'⟩:=hm;rw[ho]at cp;cases cp;exact⟨_,e9,e7,hL,r'⟩) hok hg
variable{it:Addr}
theorem Inv.turned{σ:List (Option V)}(I:Inv X pins σ H s)(k:∀b o,b≠it->s.heap.get? b=some o->h'.get? b=some o)(hn:H it=none)(hL:it≠X.env.locals)(h1:it∈X.ex\/X.s₀.heap.objs.size<=it)(h2:∀x c,X.env.cells.lookup x=some c->c≠it)(h3:∀p∈X.pn++pins,p.1≠it):Inv X pins σ H { s with heap:=h',toks:=t' }:=by
 have n6:∀b u,H b=some u->b≠it:=λb u e z=>by rw[z,hn]at e;cases e
 refine I.step (g':=s.gens) (d':=s.drawn) (ch:=[it]) (λb hb=>?_) (λb o _ _ hc e _=>k b o (λz=>hc (by simp[z])) e) (λb o _ _ hc e _=>⟨o.slots,k b o (λz=>hc (by simp[z])) e⟩) (λ_ _ _ _ n=>n)
  (λb o hc e=>⟨o,k b o (λz=>hc (by simp[z])) e⟩) (λ_ _ e=>e) (λ_ _ _ e=>e) (λb ps e=>⟨#[],by rw[e];simp⟩) (λm hm=>?_) (λb u e=>?_) I.bare
 ·have e:b=it:=by simpa using hb
  subst e;exact⟨h1,hL,h2,h3⟩
 ·obtain⟨o,es,ep,ho,r⟩:=hm;exact⟨o,es,ep,k _ o (Ri hL) ho,r⟩
 ·refine(I.hok b u e).stay (λc v hc q=>k c v ?_ q) (λ_ q=>q) λ_ _ q=>q;rcases hc with z|z
  ·rw[z];exact n6 b u e
  ·exact n6 c _ z
theorem Inv.tok{σ:List (Option V)}(I:Inv X pins σ H s)(t:Nat):Inv X pins σ H { s with toks:=t }:=I.un (h':=s.heap) (t':=t) Un.refl I.hok
theorem Inv.kept{σ:List (Option V)}(I:Inv X pins σ H s)(k:∀b u,s.heap.get? b=some u->h'.get? b=some u):Inv X pins σ H { s with heap:=h',toks:=t' }:=I.un (Un.kept k) (I.hok.kept k)
theorem Inv.laid{σ:List (Option V)}{o:HO}(I:Inv X pins σ H s)(k:∀b u,s.heap.get? b=some u->h'.get? b=some u)(hp:s.heap.objs.size<=a)(new:aZ X.prog X.w (upd H a o) h' a o):
  Inv X pins σ (upd H a o) { s with heap:=h',toks:=t' }:=I.un (Un.laid k hp (I.hok.fresh hp)) (I.hok.laid k hp new)
theorem Inv.write{σ:List (Option V)}{x e:Addr}{o:HO}(I:Inv X pins σ H s)(mu:Mut (H x))(he:e=x\/H e=some (.own x))(k:∀b u,b≠e->s.heap.get? b=some u->h'.get? b=some u)(l8:∃u,h'.get? e=some u)(new:aZ X.prog X.w (upd H x o) h' x o):Inv X pins σ (upd H x o) { s with heap:=h',toks:=t' }:=I.un (Un.write mu he k l8) (I.hok.write mu he k l8 new)
variable{c8:List (Addr×Obj)}
theorem Inv.pins_of{σ:List (Option V)}(I:Inv X pins σ H s)(h:∀p∈c8,s.heap.get? p.1=some p.2/\H p.1=none/\p.1≠X.env.locals/\p.1∉X.fs/\∀v,p.2.data≠.cell v):Inv X c8 σ H s:=
 ⟨I.ok,I.os,I.bare,I.base,I.loc,I.cell,I.free,I.freeC,λp hp=>(PK.mp hp).elim (λz=>I.pin p (Qe _ z)) (h p),I.hok,I.len⟩
variable{N:List Str}{i j:Nat}{x:Str}
theorem yF(hN:N.Nodup)(a:N[i]?=some x)(b:N[j]?=some x):i=j:=by
 obtain⟨h1,e1⟩:=Pg.mp a;obtain⟨h2,e2⟩:=Pg.mp b;exact(List.getElem_inj hN).mp (e1.trans e2.symm)
variable{A:Around}{E:Value->Shared->Prop}{M:Model}{v:V}
theorem uE{σ:List (Option V)}{Q:Unit->Shared->Prop}(I:Inv X pins σ H s)(hN:X.N.Nodup)(hi:X.N[i]?=some x)(hx:Loc X.env.scope x)(r:RelV v u)(h:∀s',Inv X pins (σ.set i (some v)) H s'->(∃a,QN a s.heap s'.heap/\(a=X.env.locals\/X.env.cells.lookup x=some a))->Q () s')(hf:X.fn x=true\/X.env.scope.names.lookup x=some .local:=by first|exact .inl rfl|exact .inr rfl|assumption):wpAny M A (storeName X.env x u) Q E s:=by
 obtain⟨m,hn,hl⟩:=id I.loc;have qx:(X.env.scope.kind == .class || (X.env.scope.kind == .module&&X.env.locals != X.env.globals))=false:=by rw[I.ok.kind];rfl
 have wq:i<σ.length:=by rw[I.len];exact(Pg.mp hi).1
 have cne:=I.cne;have tracked:∀{a:Addr}{h':Heap},(∃o,s.heap.get? a=some o/\H a=none)->QN a s.heap h'->HOk X.prog X.w H h':=λ{a h'} ha hs b ob e=>by
  obtain⟨_,_,jk⟩:=ha;refine(I.hok b ob e).stay (λc w' hc q=>(hs.2 c ?_).trans q) (λ_ q=>q) λ_ _ q=>q;rintro rfl;rcases hc with rfl|hc
  ·rw[jk]at e;cases e
  ·rw[jk]at hc;cases hc
 rcases hx with hk|hk
 ·refine wpAny_storeName_local hk hn (λh' qi hs=>?_) qx;obtain⟨oL,_,_,pd,_⟩:=id hn;refine h _ ⟨I.ok,I.os,I.bare,⟨λb o e n hb hx=>?_,λb o e n hb hx=>?_,I.base.free,λb o e hx=>?_,I.base.tups,I.base.frzs,I.base.tbls⟩,⟨_,qi,λj y v' e1 e2 e3=>?_⟩,λy c e=>?_,I.free,I.freeC,λp hp=>?_,tracked ⟨oL,pd,I.free⟩ hs,by simpa using I.len⟩ ⟨_,hs,.inl rfl⟩
  ·exact(hs.2 b (Qd (PN (Py e) I.ok.above))).trans (I.base.keep b o e n hb hx)
  ·obtain⟨sl,e1⟩:=I.base.slot b o e n hb hx;exact⟨sl,(hs.2 b (Qd (PN (Py e) I.ok.above))).trans e1⟩
  ·obtain⟨o',e1⟩:=I.base.there b o e hx;exact⟨o',(hs.2 b (Qd (PN (Py e) I.ok.above))).trans e1⟩
  ·by_cases hj:j=i
   ·subst hj;rw[hi]at e1;cases e1;rw[QQ wq]at e2;cases e2
    exact⟨u,r,.inl ⟨hk,by simp⟩⟩
   ·rw[PQ (Ri hj)]at e2;obtain⟨u',r',q⟩:=hl j y v' e1 e2 e3;refine⟨u',r',?_⟩;rcases q with⟨k,e⟩|⟨k,c,e,z⟩
    ·refine .inl ⟨k,?_⟩;have:y≠x:=λe=>hj (yF hN e1 (e▸hi));simp[this,e]
    ·exact .inr ⟨k,c,e,z.sameBut hs (cne y c e)⟩
  ·obtain⟨w',z⟩:=I.cell y c e;exact⟨w',z.sameBut hs (cne y c e)⟩
  ·obtain⟨e,n,ne,nf,d⟩:=I.pin p hp;exact⟨(hs.2 p.1 ne).trans e,n,ne,nf,d⟩
 ·have uy:X.fn x=true:=by
   rcases hf with z|z
   ·exact z
   ·rw[z]at hk;cases hk
  obtain⟨c,hc⟩:=I.ok.has x (.inl hk);obtain⟨w',z⟩:=I.cell x c hc;refine wpAny_storeName_cell I.ok.kind hk hc z (λh' mr hs=>?_);obtain⟨oc,ig,rn⟩:=id z;refine h { s with heap:=h' } ⟨I.ok,I.os,I.bare,⟨λb o e n hb hx=>?_,λb o e n hb hx=>?_,I.base.free,λb o e hx=>?_,I.base.tups,I.base.frzs,I.base.tbls⟩,⟨m,hn.sameBut hs (Ri (cne x c hc)),λj y v' e1 e2 e3=>?_⟩,λy c' e=>?_,I.free,I.freeC,λp hp=>?_,tracked ⟨oc,ig,I.freeC x c hc⟩ hs,by simpa using I.len⟩ ⟨c,hs,.inr hc⟩
  ·exact(hs.2 b (Qd (PN (Py e) (I.ok.cab x c uy hc)))).trans (I.base.keep b o e n hb hx)
  ·obtain⟨sl,e1⟩:=I.base.slot b o e n hb hx;exact⟨sl,(hs.2 b (Qd (PN (Py e) (I.ok.cab x c uy hc)))).trans e1⟩
  ·obtain⟨o',e1⟩:=I.base.there b o e hx;exact⟨o',(hs.2 b (Qd (PN (Py e) (I.ok.cab x c uy hc)))).trans e1⟩
  ·by_cases hj:j=i
   ·subst hj;rw[hi]at e1;cases e1;rw[QQ wq]at e2;cases e2
    exact⟨u,r,.inr ⟨.inl hk,c,hc,mr⟩⟩
   ·rw[PQ (Ri hj)]at e2;obtain⟨u',r',q⟩:=hl j y v' e1 e2 e3;refine⟨u',r',?_⟩;rcases q with q|⟨k,c',e,z'⟩
    ·exact .inl q
    ·refine .inr ⟨k,c',e,z'.sameBut hs ?_⟩;rintro rfl;exact hj (yF hN e1 (I.ok.inj _ _ _ e hc▸hi))
  ·by_cases qy:c'=c
   ·subst qy;exact⟨_,mr⟩
   ·obtain⟨w2,z2⟩:=I.cell y c' e;exact⟨w2,z2.sameBut hs qy⟩
  ·obtain⟨e,n,ne,nf,d⟩:=I.pin p hp;refine⟨(hs.2 p.1 ?_).trans e,n,ne,nf,d⟩;intro q;rw[q,ig]at e;have q':oc=p.2:=PP e;exact d w' (by rw[<-q'];exact rn)
theorem yG{σ:List (Option V)}{Q:Unit->Shared->Prop}(I:Inv X pins σ H s)(hN:X.N.Nodup)(hi:X.N[i]?=some x)(hx:Loc X.env.scope x)(r:RelV v u)(h:∀s',Inv X pins (σ.set i (some v)) H s'->Q () s')(hf:X.fn x=true\/X.env.scope.names.lookup x=some .local:=by first|exact .inl rfl|exact .inr rfl|assumption):wpAny M A (storeName X.env x u) Q E s:=
 uE I hN hi hx r (λs' I' _=>h s' I') hf
variable{s':Shared}
theorem Inv.call'{σ:List (Option V)}(I:Inv X pins σ H s)(ho:s'.os=s.os)(u:Un (frs X.stack) ch H H' s.heap s'.heap)(hok:HOk X.prog X.w H' s'.heap)(hg:AllBare s'.gens)(g8:∀b∈ch,(b∈X.ex\/X.s₀.heap.objs.size<=b)/\b≠X.env.locals/\(∀x c,X.env.cells.lookup x=some c->c≠b)/\∀p∈X.pn++pins,p.1≠b):Inv X pins σ H' s':=by
 obtain⟨h',g',d',t',o'⟩:=s';have e:o'=s.os:=ho;subst e;exact I.call (g':=g') (t':=t') (d':=d') u hok hg g8
abbrev XK:=Value->Option Addr->Hp->Prop
abbrev St:=List (Option V)
abbrev VK:=V->Hp->Prop
abbrev TE:=St->Hp->VK->Prop
abbrev TT:=St->Hp->(Bool->Hp->Prop)->Prop
abbrev TA:=St->Hp->(List V->Hp->Prop)->Prop
structure Ends where
 nx:St->Hp->Prop
 rt:VK
 bk:St->Hp->Prop:=λ_ _=>False
 ct:St->Hp->Prop:=λ_ _=>False
abbrev TS:=Ends->St->Hp->Prop
def EP(X:Cx)(pins:List (Addr×Obj))(σ:St)(Q:VK)(u:Value)(s':Shared):Prop:=∃v H',Inv X pins σ H' s'/\RelV v u/\Q v H'
def TP(X:Cx)(pins:List (Addr×Obj))(σ:St)(Q:Bool->Hp->Prop)(b:Bool)(s':Shared):Prop:=∃H',Inv X pins σ H' s'/\Q b H'
def AP(X:Cx)(pins:List (Addr×Obj))(σ:St)(Q:List V->Hp->Prop)(us:List Value)(s':Shared):Prop:=∃vs H',Inv X pins σ H' s'/\aJ vs us/\Q vs H'
def SP(X:Cx)(pins:List (Addr×Obj))(D:Ends)(f:Flow)(s':Shared):Prop:=
 match f with
 |.next=>∃σ' H',Inv X pins σ' H' s'/\D.nx σ' H'
 |.brk=>∃σ' H',Inv X pins σ' H' s'/\D.bk σ' H'
 |.cont=>∃σ' H',Inv X pins σ' H' s'/\D.ct σ' H'
 |.ret u=>∃v σ' H',Inv X pins σ' H' s'/\RelV v u/\D.rt v H'
def PE(X:Cx)(e:Expr)(t:TE):Prop:=
 ∀(pins:List (Addr×Obj))(s:Shared)(σ:St)(H:Hp)(Q:VK),Inv X pins σ H s->t σ H Q->wpAny (model X.prog X.w) X.A (eval e X.env) (EP X pins σ Q) X.xe s
def PT(X:Cx)(e:Expr)(t:TT):Prop:=
 ∀(pins:List (Addr×Obj))(s:Shared)(σ:St)(H:Hp)(Q:Bool->Hp->Prop),Inv X pins σ H s->t σ H Q->wpAny (model X.prog X.w) X.A (isTrue e X.env (eval e X.env)) (TP X pins σ Q) X.xe s
def PW(X:Cx)(e:Expr)(t:TT):Prop:=
 ∀(whole:Sem Value)(pins:List (Addr×Obj))(s:Shared)(σ:St)(H:Hp)(Q:Bool->Hp->Prop),Inv X pins σ H s->t σ H Q->wpAny (model X.prog X.w) X.A (isTrue e X.env whole) (TP X pins σ Q) X.xe s
variable{e:Expr}
theorem PW.pt{t:TT}(h:PW X e t):PT X e t:=h _
def PA(X:Cx)(es:List Expr)(t:TA):Prop:=
 ∀(pos:Pos)(pins:List (Addr×Obj))(s:Shared)(σ:St)(H:Hp)(Q:List V->Hp->Prop),Inv X pins σ H s->t σ H Q->wpAny (model X.prog X.w) X.A (spliced (backTo pos (PJ es X.env))) (AP X pins σ Q) X.xe s
def PS(X:Cx)(st:Stmt)(t:TS):Prop:=
 ∀(pins:List (Addr×Obj))(s:Shared)(σ:St)(H:Hp)(D:Ends),Inv X pins σ H s->t D σ H->wpAny (model X.prog X.w) X.A (exec st X.env) (SP X pins D) X.xe s
def PSs(X:Cx)(st:List Stmt)(t:TS):Prop:=
 ∀(pins:List (Addr×Obj))(s:Shared)(σ:St)(H:Hp)(D:Ends),Inv X pins σ H s->t D σ H->wpAny (model X.prog X.w) X.A (execs st X.env) (SP X pins D) X.xe s
theorem thn{α:Type}{t:Sem α}{Q Q':α->Shared->Prop}(h:wpAny M A t Q E s)(hQ:∀a s,Q a s->Q' a s):wpAny M A t Q' E s:=Rz h hQ λ_ _ x=>x
variable{pos:Pos}{Q:Value->Shared->Prop}{σ:St}{tA:TT}{qc:TT}{ta:TE}
section
def Ng(i:Nat):TE:=λσ H Q=>∃v,σ[i]?=some (some v)/\Q v H
def tC(v:V):TE:=λ_ H Q=>Q v H
theorem Iz(hN:X.N[i]?=some x)(hv:Vis X.env.scope x)(hd:(x == ("__debug__" : Str))=false:=by decide)(gj:(x == ("__classdict__" : Str))=false:=by decide):PE X (.Name x pos) (Ng i):=by
 intro pins s σ H Q I h;obtain⟨v,e,h⟩:=h;obtain⟨m,hn,hl⟩:=I.loc;obtain⟨u,r,l⟩:=hl i x v hN e hv;have fin:EP X pins σ Q u s:=⟨v,H,I,r,h⟩;rcases l with⟨hk,hm⟩|⟨hk,c,hc,d9⟩
 ·exact wpAny_Name (wpAny_loadName_local I.ok.kind hk hn hm fin) hd
 ·rcases hk with hk|hk
  ·exact wpAny_Name (wpAny_loadName_cell I.ok.kind hk hc d9 fin) hd
  ·exact wpAny_Name (wpAny_loadName_free I.ok.kind hk hc d9 fin gj) hd
theorem IA{i j pos}:PE X (.Constant (.int i) j pos) (tC (.int i)):=λ_ _ _ H _ I h=>wpAny_Constant_int ⟨.int i,H,I.tok _,⟨_,rfl⟩,h⟩
theorem KI{b j pos}:PE X (.Constant (.bool b) j pos) (tC (.bl b)):=λ_ _ _ H _ I h=>Constant_bool ⟨.bl b,H,I,rfl,h⟩
theorem IB{j pos}:PE X (.Constant .none j pos) (tC .non):=λ_ _ _ H _ I h=>Constant_none ⟨.non,H,I,rfl,h⟩
theorem IC{x j pos}:PE X (.Constant (.str x) j pos) (tC (.str x)):=λ_ _ _ H _ I h=>Calls.Constant_str ⟨.str x,H,I.tok _,⟨_,rfl⟩,h⟩
def Gl(X:Cx)(x:Str):Prop:=X.env.kindOf x=some .globalImplicit
theorem gY(I:Inv X pins σ H s)(hg:Gl X x)(hm:X.mg x=some u)(h:Q u s)(hd:(x == ("__debug__" : Str))=false:=by decide):wpAny (model X.prog X.w) X.A (eval (.Name x pos) X.env) Q E s:=
 Calls.Name_function_global I.ok.kind hg (Calls.loadGlobal_global (by rw[I.ok.glob];exact I.mod.glob.keeps I.bk) hm h) hd
theorem kR(I:Inv X pins σ H s)(hg:Gl X x)(hm:X.mg x=none)(hv:RB x=some u)(h:Q u s)(hn:x≠"__name__" := by decide)(hd:(x == ("__debug__" : Str))=false:=by decide):wpAny (model X.prog X.w) X.A (eval (.Name x pos) X.env) Q E s:=by
 obtain⟨mb,h1,h2⟩:=I.mod.blt;exact Calls.Name_function_global I.ok.kind hg (Calls.loadGlobal_builtin (by rw[I.ok.glob];exact I.mod.glob.keeps I.bk) hm (by rw[I.ok.blt];exact h1.keeps I.bk) ((h2 x hn).trans hv) h) hd
theorem Bm(hg:Gl X x)(hm:X.mg x=some u)(r:RelV v u)(hd:(x == ("__debug__" : Str))=false:=by decide):PE X (.Name x pos) (tC v):=
 λ_ _ _ H _ I h=>gY I hg hm ⟨v,H,I,r,h⟩ hd
theorem G0(hg:Gl X x)(hm:X.mg x=none)(hv:RB x=some u)(r:RelV v u)(hn:x≠"__name__" := by decide)(hd:(x == ("__debug__" : Str))=false:=by decide):PE X (.Name x pos) (tC v):=
 λ_ _ _ H _ I h=>kR I hg hm hv ⟨v,H,I,r,h⟩ hn hd
variable{a b:Expr}{tb:TE}
def tB(t:TE):TT:=λσ H Q=>t σ H λx H1=>∃c,x=.bl c/\Q c H1
variable{rest:List Expr}
def Nh(t u:TT):TT:=λσ H Q=>t σ H λc H1=>if c=true then u σ H1 Q else Q false H1
def tOr(t u:TT):TT:=λσ H Q=>t σ H λc H1=>if c=true then Q true H1 else u σ H1 Q
def Ni(t:TT):TT:=λσ H Q=>t σ H λc H1=>Q (!c) H1
theorem G1(ha:PT X a tA):PW X (.BoolOp .And [a] pos) tA:=by
 intro wh pins s σ H Q I h;refine isTrue_and (thn (ha pins s σ H Q I h) λc s1 e=>?_);cases c with
 |true=>exact isTrue_and_nil e
 |false=>exact e
theorem ID(ha:PT X a tA):PW X (.BoolOp .Or [a] pos) tA:=by
 intro wh pins s σ H Q I h;refine isTrue_or (thn (ha pins s σ H Q I h) λc s1 e=>?_);cases c with
 |false=>exact isTrue_or_nil e
 |true=>exact e
theorem IE(ha:PT X a tA)(hb:PW X (.BoolOp .And (b::rest) pos) qc):PW X (.BoolOp .And (a::b::rest) pos) (Nh tA qc):=by
 intro wh pins s σ H Q I h;refine isTrue_and (thn (ha pins s σ H _ I h) λc s1 ⟨H1,I1,q1⟩=>?_);cases c with
 |true=>exact hb wh pins s1 σ H1 Q I1 q1
 |false=>exact⟨H1,I1,q1⟩
theorem KJ(ha:PT X a tA)(hb:PW X (.BoolOp .Or (b::rest) pos) qc):PW X (.BoolOp .Or (a::b::rest) pos) (tOr tA qc):=by
 intro wh pins s σ H Q I h;refine isTrue_or (thn (ha pins s σ H _ I h) λc s1 ⟨H1,I1,q1⟩=>?_);cases c with
 |true=>exact⟨H1,I1,q1⟩
 |false=>exact hb wh pins s1 σ H1 Q I1 q1
theorem IF(ha:PT X a tA):PT X (.UnaryOp .Not a pos) (Ni tA):=by
 intro pins s σ H Q I h;exact isTrue_not (ha pins s σ H (λc H1=>Q (!c) H1) I h)
theorem IG{op}{t:TE}(h:PE X a t):PE X (.BoolOp op [a] pos) t:=λpins s σ H Q I hw=>BoolOp_one (h pins s σ H Q I hw)
def tIf(t:TT)(ta tb:TE):TE:=λσ H Q=>t σ H λc H1=>if c=true then ta σ H1 Q else tb σ H1 Q
theorem Dv{c:Expr}(hc:PT X c tA)(ha:PE X a ta)(hb:PE X b tb):PE X (.IfExp c a b pos) (tIf tA ta tb):=by
 intro pins s σ H Q I h;refine wpAny_IfExp (thn (hc pins s σ H _ I h) λd s1 ⟨H1,I1,q1⟩=>?_);cases d with
 |true=>exact ha pins s1 σ H1 Q I1 q1
 |false=>exact hb pins s1 σ H1 Q I1 q1
end
def SqL(K:Pi)(H:Hp)(a:Addr)(xs:List V):Prop:=
 Rd H a (.lst xs)\/
  ∃(o:Obj)(its:Array Value)(n:Nat),K.lookup a=some o/\o.cls=.type "list" /\ o.dict=none/\o.data=.seq its n/\its.size<=Pt/\aJ xs its.toList
def SqT(K:Pi)(H:Hp)(a:Addr)(xs:List V):Prop:=
 Rd H a (.tup xs)\/
  ∃(o:Obj)(its:Array Value)(n:Nat),K.lookup a=some o/\o.cls=.type "tuple" /\ o.data=.seq its n/\its.size<=Pt/\aJ xs its.toList/\o.dict=none
def Nj:Value->Option V
 |.none=>some .non
 |.bool b=>some (.bl b)
 |.int i _=>some (.int i)
 |.str x _=>some (.str x)
 |.bytes b _=>some (.byt b)
 |.float b _=>some (.flt b)
 |.ref a=>some (.ref a)
 |.type n=>some (.ty n)
 |_=>none
theorem RelV.abs{x:V}(r:RelV x u):Nj u=some x:=by
 cases x with
 |non=>cases r;rfl
 |bl _=>cases r;rfl
 |int _=>obtain⟨t,rfl⟩:=r;rfl
 |str _=>obtain⟨t,rfl⟩:=r;rfl
 |byt _=>obtain⟨t,rfl⟩:=r;rfl
 |flt _=>obtain⟨t,rfl⟩:=r;rfl
 |ref _=>cases r;rfl
 |ty _=>cases r;rfl
variable{y:V}
theorem RelV.inj{x:V}(r:RelV x u)(q:RelV y u):x=y:=PP (r.abs.symm.trans q.abs)
theorem aJ.inj:∀{xs ys:List V}{us:List Value},aJ xs us->aJ ys us->xs=ys
 |_,_,_,.nil,.nil=>rfl
 |_,_,_,.cons r t,.cons r' t'=>by rw[r.inj r',aJ.inj t t']
variable{K:Pi}
theorem SqL.of{xs:List V}(h:H a=some (.lst xs)):SqL K H a xs:=.inl (.inl h)
theorem SqT.of{xs:List V}(h:H a=some (.tup xs)):SqT K H a xs:=.inl (.inl h)
theorem Inv.list{xs:List V}(I:Inv X pins σ H s)(h:SqL X.K H a xs):∃its:List Value,aJ xs its/\PlainL s.heap a its.toArray/\xs.length<=Pt:=by
 rcases h with h|⟨o,its,n,hk,hc,hd,hs,hz,r⟩
 ·obtain⟨z,its,n,r,e⟩:=h.ok I.hok;exact⟨its,r,⟨_,n,e,rfl,rfl,rfl⟩,z⟩
 ·refine⟨its.toList,r,⟨o,n,I.kIn a o hk,hc,hd,by simpa using hs⟩,?_⟩
  have e:=r.length;simp only[SL]at e;omega
theorem Inv.tuple{xs:List V}(I:Inv X pins σ H s)(h:SqT X.K H a xs):∃its:List Value,aJ xs its/\IsTup s.heap a its.toArray/\xs.length<=Pt:=by
 rcases h with h|⟨o,its,n,hk,hc,hs,hz,r,_⟩
 ·obtain⟨z,its,r,p⟩:=h.ok I.hok;exact⟨its,r,p.is,z⟩
 ·refine⟨its.toList,r,⟨o,I.kIn a o hk,hc,n,by simpa using hs⟩,?_⟩
  have e:=r.length;simp only[SL]at e;omega
theorem Inv.list_inj{xs:List V}{ys:List V}(I:Inv X pins σ H s)(h:SqL X.K H a xs)(h':SqL X.K H a ys):xs=ys:=by
 obtain⟨its,r,⟨o,n,e,_,_,d⟩,_⟩:=I.list h;obtain⟨its',r',⟨o',n',e',_,_,d'⟩,_⟩:=I.list h';rw[e]at e';cases e';rw[d]at d';injection d' with d1 _;have:its=its':=by simpa using congrArg Array.toList d1
 subst this;exact r.inj r'
theorem Inv.tuple_inj{xs:List V}{ys:List V}(I:Inv X pins σ H s)(h:SqT X.K H a xs)(h':SqT X.K H a ys):xs=ys:=by
 obtain⟨its,r,⟨o,e,_,n,d⟩,_⟩:=I.tuple h;obtain⟨its',r',⟨o',e',_,n',d'⟩,_⟩:=I.tuple h';rw[e]at e';cases e';rw[d]at d';injection d' with d1 _;have:its=its':=by simpa using congrArg Array.toList d1
 subst this;exact r.inj r'
abbrev Cx.wish(X:Cx)(E:Value->Shared->Prop):Cx:={ X with xe:=E }
abbrev Cx.nox(X:Cx):Cx:=X.wish λ_ _=>False
theorem Cx.Ok.wish(ok:X.Ok)(E:Value->Shared->Prop):(X.wish E).Ok:=
 ⟨ok.mod,ok.kind,ok.glob,ok.blt,ok.above,ok.inj,ok.has,ok.cab,ok.hd,ok.frames,ok.stk,ok.exf,ok.bs,ok.bsz,ok.noex,ok.exfs,ok.funs,ok.frf⟩
theorem Cx.Ok.unwish(ok:(X.wish E).Ok):X.Ok:=
 ⟨ok.mod,ok.kind,ok.glob,ok.blt,ok.above,ok.inj,ok.has,ok.cab,ok.hd,ok.frames,ok.stk,ok.exf,ok.bs,ok.bsz,ok.noex,ok.exfs,ok.funs,ok.frf⟩
theorem Inv.wish(I:Inv X pins σ H s)(E:Value->Shared->Prop):Inv (X.wish E) pins σ H s:=⟨I.ok.wish E,I.os,I.bare,I.base,I.loc,I.cell,I.free,I.freeC,I.pin,I.hok,I.len⟩
theorem Inv.unwish(I:Inv (X.wish E) pins σ H s):Inv X pins σ H s:=⟨I.ok.unwish,I.os,I.bare,I.base,I.loc,I.cell,I.free,I.freeC,I.pin,I.hok,I.len⟩
theorem SP.unwish{D:Ends}{f:Flow}(h:SP (X.wish E) pins D f s'):SP X pins D f s':=by
 cases f with
 |next=>obtain⟨σ',H',I,q⟩:=h;exact⟨σ',H',I.unwish,q⟩
 |brk=>obtain⟨σ',H',I,q⟩:=h;exact⟨σ',H',I.unwish,q⟩
 |cont=>obtain⟨σ',H',I,q⟩:=h;exact⟨σ',H',I.unwish,q⟩
 |ret u=>obtain⟨v,σ',H',I,r,q⟩:=h;exact⟨v,σ',H',I.unwish,r,q⟩
theorem PSs.nox{st:List Stmt}{t:TS}(h:PSs X.nox st t):PSs X st t:=λpins s σ H D I hw=>
 Rz (h pins s σ H D (I.wish _) hw) (λ_ _ q=>q.unwish) λ_ _ z=>Re z
variable{st:Stmt}{te:TE}{tc:TT}
section
variable{rest:List Stmt}{t u:TS}
def KL:TS:=λD σ H=>D.nx σ H
def Nk(t u:TS):TS:=λD σ H=>t { D with nx:=u D } σ H
theorem G2:PSs X [] KL:=λ_ _ σ H _ I h=>wpAny_execs_nil ⟨σ,H,I,h⟩
theorem Dw(h1:PS X st t)(h2:PSs X rest u):PSs X (st::rest) (Nk t u):=by
 intro pins s σ H D I h;refine wpAny_execs_cons (thn (h1 pins s σ H { D with nx:=u D } I h) λf s1 q=>?_);cases f with
 |next=>
  obtain⟨σ',H',I',q⟩:=q;exact h2 pins s1 σ' H' D I' q
 |ret v=>exact q
 |brk=>exact q
 |cont=>exact q
theorem G3(h1:PS X st t):PSs X [st] t:=by
 intro pins s σ H D I h;refine wpAny_execs_cons (thn (h1 pins s σ H D I h) λf s1 q=>?_);cases f with
 |next=>exact wpAny_execs_nil q
 |ret v=>exact q
 |brk=>exact q
 |cont=>exact q
def KM:TS:=λD σ H=>D.ct σ H
theorem yH:PS X (.Continue pos) KM:=λ_ _ σ H _ I h=>wpAny_Continue ⟨σ,H,I,h⟩
theorem Inv.quiet(I:Inv X pins σ H s):interactive X.env=false:=by simp[interactive,I.ok.kind]
def KN(te:TE):TS:=λD σ H=>te σ H λ_ H1=>D.nx σ H1
theorem G4(he:PE X e te)(hs:SS e none pos.line X.env=pure false:=by rfl):PS X (.Expr e pos) (KN te):=by
 intro pins s σ H D I h;exact wpAny_Expr_any (thn (he pins s σ H _ I h) λv s1 ⟨x,H1,I1,r1,q1⟩=>⟨σ,H1,I1,q1⟩) I.quiet hs
def Nl(te:TE):TS:=λD σ H=>te σ H D.rt
theorem IH(he:PE X e te):PS X (.Return (some e) pos) (Nl te):=by
 intro pins s σ H D I h;exact wpAny_Return_some (thn (he pins s σ H _ I h) λv s1 ⟨x,H1,I1,r1,q1⟩=>⟨x,σ,H1,I1,r1,q1⟩)
def Np(c:TT)(t u:TS):TS:=λD σ H=>c σ H λb H1=>if b=true then t D σ H1 else u D σ H1
theorem KO{c:Expr}{a b:List Stmt}(hc:PT X c tc)(ha:PSs X a t)(hb:PSs X b u):PS X (.If c a b pos) (Np tc t u):=by
 intro pins s σ H D I h;refine wpAny_If (thn (hc pins s σ H _ I h) λd s1 ⟨H1,I1,q1⟩=>?_);cases d with
 |true=>exact ha pins s1 σ H1 D I1 q1
 |false=>exact hb pins s1 σ H1 D I1 q1
end
abbrev TG:=V->St->Hp->(St->Hp->Prop)->Prop
abbrev TGs:=List V->St->Hp->(St->Hp->Prop)->Prop
def PG(X:Cx)(target:Expr)(t:TG):Prop:=
 ∀(pins:List (Addr×Obj))(s:Shared)(σ:St)(H:Hp)(v:V)(u:Value)(Q:St->Hp->Prop),Inv X pins σ H s->RelV v u->t v σ H Q->
  wpAny (model X.prog X.w) X.A (assign target X.env u) (λ_ s'=>∃σ' H',Inv X pins σ' H' s'/\Q σ' H') X.xe s
def PGs(X:Cx)(ts:List Expr)(t:TGs):Prop:=
 ∀(pins:List (Addr×Obj))(s:Shared)(σ:St)(H:Hp)(vs:List V)(us:List Value)(Q:St->Hp->Prop),Inv X pins σ H s->aJ vs us->t vs σ H Q->
  wpAny (model X.prog X.w) X.A (assignInOrder ((RA ts X.env).map (·.2)) us) (λ_ s'=>∃σ' H',Inv X pins σ' H' s'/\Q σ' H') X.xe s
abbrev Nq:=V->V->V->Hp->(Hp->Prop)->Prop
def Nr(X:Cx)(t:Nq):Prop:=
 ∀(pins:List (Addr×Obj))(s:Shared)(σ:St)(H:Hp)(o i v:V)(ov iv u:Value)(Q:Hp->Prop),Inv X pins σ H s->RelV o ov->RelV i iv->RelV v u->t o i v H Q->
  wpAny (model X.prog X.w) X.A (setItem ov iv u) (λ_ s'=>∃H',Inv X pins σ H' s'/\Q H') X.xe s
def Dx(i:Nat):TG:=λv σ H Q=>Q (σ.set i (some v)) H
theorem G5(hN:X.N.Nodup)(hi:X.N[i]?=some x)(hx:Loc X.env.scope x)(hf:X.fn x=true\/X.env.scope.names.lookup x=some .local:=by first|exact .inl rfl|exact .inr rfl|assumption):PG X (.Name x pos) (Dx i):=by
 intro pins s σ H v u Q I r h;exact wpAny_assign_Name (yG I hN hi hx r (λs' I'=>⟨_,H,I',h⟩) hf)
def Nt:TGs:=λvs σ H Q=>vs=[]/\Q σ H
def KQ(t:TG)(u:TGs):TGs:=λvs σ H Q=>∃v r,vs=v::r/\t v σ H λσ' H'=>u r σ' H' Q
theorem G6:PGs X [] Nt:=by
 intro pins s σ H vs us Q I r h;obtain⟨e,h⟩:=h;subst e;cases r
 exact assignInOrder_nil ⟨σ,H,I,h⟩
variable{es:List Expr}
theorem Dy{t:TG}{u:TGs}(h1:PG X e t)(h2:PGs X es u)(hs:(RA (e::es) X.env).map (·.2)=assign e X.env::(RA es X.env).map (·.2):=by rfl):PGs X (e::es) (KQ t u):=by
 intro pins s σ H vs us Q I r h;obtain⟨v,vr,e1,h⟩:=h;subst e1;cases r with
 |cons r rr=>
  rw[hs];refine assignInOrder_cons (thn (h1 pins s σ H _ _ _ I r h) λ_ s1 ⟨σ1,H1,I1,q1⟩=>?_);exact h2 pins s1 σ1 H1 _ _ Q I1 rr q1
def KR(K:Pi)(n:Nat)(t:TGs):TG:=λv σ H Q=>∃a xs,v=.ref a/\SqT K H a xs/\xs.length=n/\t xs σ H Q
variable{n:Nat}
theorem II{k:Nat}{t:TGs}(hc:X.calm=true)(h:PGs X es t)(hn:(RA es X.env).length=n:=by rfl)(f7:(RA es X.env).findIdx? (·.1)=none:=by rfl):PG X (.Tuple es k pos) (KR X.K n t):=by
 intro pins s σ H v u Q I r hw;obtain⟨a,xs,e1,hq,hl,hw⟩:=hw;subst e1;cases r
 obtain⟨its,rv,ht,hz⟩:=I.tuple hq;refine assign_Tuple_tuple (I.ok.hd hc) ht (by simp[hn,<-hl,rv.length]) f7 λh' hx=>?_;have I1:Inv X pins σ H { s with heap:=h' }:=I.kept (t':=s.toks) λb o e=>hx b o (Qd (Py e)) e;exact h pins _ σ H xs _ Q I1 (by simpa using rv) hw
def IJ(te:TE)(g:TG):TS:=λD σ H=>te σ H λx H1=>g x σ H1 D.nx
variable{tg:Expr}
theorem IK{g:TG}(he:PE X e te)(hg:PG X tg g)(hs:swapsWithSole [tg] e pos.line X.env=pure false:=by rfl)(hw:swappedStores [tg] e X.env=pure none:=by rfl)(h1:(RA [tg] X.env).map (·.2)=[assign tg X.env]:=by rfl):PS X (.Assign [tg] e pos) (IJ te g):=by
 intro pins s σ H D I h;refine wpAny_Assign_stores (thn (he pins s σ H _ I h) λv s1 hz=>?_) hs hw;obtain⟨x,H1,I1,r1,q1⟩:=hz;rw[h1];exact thn (hg pins s1 σ H1 x v _ I1 r1 q1) λ_ s2 q=>q
variable{pos':Pos}
theorem IL(hN:X.N.Nodup)(hi:X.N[i]?=some x)(hx:Loc X.env.scope x)(he:PE X e te)(hs:SS e (some (.Name x pos')) pos.line X.env=pure false:=by rfl)(hf:X.fn x=true\/X.env.scope.names.lookup x=some .local:=by first|exact .inl rfl|exact .inr rfl|assumption):
  PS X (.Assign [.Name x pos'] e pos) (IJ te (Dx i)):=by
 intro pins s σ H D I h;refine wpAny_Assign_Name (thn (he pins s σ H _ I h) λv s1 hz=>?_) hs;obtain⟨y,H1,I1,r1,q1⟩:=hz;exact yG I1 hN hi hx r1 (λs2 I2=>⟨_,H1,I2,q1⟩) hf
structure It where
 go:Nat->Hp->Prop
 yld:Nat->Hp->V->Hp->Prop
 stop:Nat->Hp->Prop
def yI(X:Cx)(pins:List (Addr×Obj))(H:Hp)(b:Addr):Prop:=
 H b=none/\b≠X.env.locals/\b∉X.fs/\(b∈X.ex\/X.s₀.heap.objs.size<=b)/\(∀x c,X.env.cells.lookup x=some c->c≠b)/\∀p∈X.pn++pins,p.1≠b
theorem Inv.fpOk{b:Addr}(I:Inv X pins σ H s)(hb:s.heap.objs.size<=b)(hn:H' b=none):yI X pins H' b:=by
 refine⟨hn,SQ (PN I.lt hb),I.nofs hb,.inr (P6 I.sz hb),λx c e z=>?_,λp hp z=>?_⟩
 ·obtain⟨v,q⟩:=I.cell x c e;exact absurd (PN q.lt (by rw[z];exact hb)) (Rg _)
 ·exact absurd (PN (Py (I.pin p hp).1) (by rw[z];exact hb)) (Rg _)
structure Turn(P:Program)(w:World)(K:Pi)(tg:Expr)(J:It)(fp:List Addr)(it:Addr)(tn:Nat->Heap->Prop):Prop where
 mem:it∈fp
 obj:∀i h,tn i h->∀b∈fp,∃o,h.get? b=some o/\∀v,o.data≠.cell v
 keep:∀i h h',tn i h->(∀b∈fp,∀o,h.get? b=some o->h'.get? b=some o)->tn i h'
 item:∀(X:Cx),X.prog=P->X.w=w->X.K=K->X.calm=true->∀(i:Nat)(pins:List (Addr×Obj))(s:Shared)(σ:St)(H:Hp)(E:Value->Shared->Prop),Inv X pins σ H s->(∀b∈fp,yI X pins H b)->tn i s.heap->J.go i H->
  wpAny (model P w) X.A (pyNext (.ref it)) (λr s1=>∃u,r=some u/\
   wpAny (model P w) X.A (letOwnedTupleGo tg (.ref it) u) (λ_ s2=>∃x H',Inv X pins σ H' s2/\RelV x u/\J.yld i H x H'/\tn (i+1) s2.heap/\∀b∈fp,H' b=none) E s1) E s
 done:∀(X:Cx),X.prog=P->X.w=w->X.K=K->X.calm=true->∀(i:Nat)(pins:List (Addr×Obj))(s:Shared)(σ:St)(H:Hp)(E:Value->Shared->Prop),Inv X pins σ H s->(∀b∈fp,yI X pins H b)->tn i s.heap->J.stop i H->
  wpAny (model P w) X.A (pyNext (.ref it)) (λr s1=>r=none/\Inv X pins σ H s1) E s
 self:∀(A:Around)(i:Nat)(s:Shared)(Q:Value->Shared->Prop)(E:Value->Shared->Prop),tn i s.heap->Q (.ref it) s->wpAny (model P w) A (pyIter (.ref it)) Q E s
abbrev TI:=St->Hp->(It->Hp->Prop)->Prop
def PIE(X:Cx)(pins:List (Addr×Obj))(σ:St)(tg:Expr)(R:It->Hp->Prop)(qm:Value)(s2:Shared):Prop:=
 ∃(it:Addr)(fp:List Addr)(tn:Nat->Heap->Prop)(J:It)(H':Hp),qm=.ref it/\Inv X pins σ H' s2/\Turn X.prog X.w X.K tg J fp it tn/\tn 0 s2.heap/\(∀b∈fp,yI X pins H' b)/\R J H'
def PI(X:Cx)(tg iter:Expr)(wi:TI):Prop:=
 ∀(pins:List (Addr×Obj))(s:Shared)(σ:St)(H:Hp)(R:It->Hp->Prop),Inv X pins σ H s->wi σ H R->
  wpAny (model X.prog X.w) X.A (eval iter X.env) (λv s1=>wpAny (model X.prog X.w) X.A (pyIter v) (PIE X pins σ tg R) X.xe s1) X.xe s
theorem uF{o:Obj}{n:String}{vs:Array Value}{Q:Unit->Shared->Prop}(ho:s.heap.get? it=some o)(hc:o.cls=.type n)(hd:o.data=.fields vs)(hn:["enumerate","zip","dict_itemiterator","dict_reverseitemiterator","odict_iterator","itertools.zip_longest","itertools.pairwise"].contains n=false)(hQ:Q () s):wpAny M A (letOwnedTupleGo tg (.ref it) u) Q E s:=by
 unfold letOwnedTupleGo;cases tg <;> first
  |exact Ph hQ
  | (cases u <;> first
    |exact Ph hQ
    | (refine Pf (wpAny_load ho ?_)
       rw[hc,hd]
       show wpAny M A (if(["enumerate","zip","dict_itemiterator","dict_reverseitemiterator","odict_iterator","itertools.zip_longest","itertools.pairwise"].contains n&&vs[0]? == some (rawInt _))=true then _ else _) Q E s
       rw[if_neg (by intro h;rw[hn,Bool.false_and]at h;cases h)];exact Ph hQ))
def Itl(K:Pi)(a:Addr):It:=
 ⟨λi H=>∃xs x,SqL K H a xs/\xs[i]?=some x,λi H x H'=>H'=H/\∀xs,SqL K H a xs->xs[i]?=some x,λi H=>∃xs,SqL K H a xs/\xs.length<=i⟩
def Itt(K:Pi)(a:Addr):It:=
 ⟨λi H=>∃xs x,SqT K H a xs/\xs[i]?=some x,λi H x H'=>H'=H/\∀xs,SqT K H a xs->xs[i]?=some x,λi H=>∃xs,SqT K H a xs/\xs.length<=i⟩
def Itr(lo:Int)(n:Nat):It:=⟨λi _=>i<n,λi H x H'=>H'=H/\x=.int (lo+i),λi _=>n<=i⟩
theorem uG(a it:Addr):Turn P w K tg (Itl K a) [it] it (λi h=>h.IsListIter it a i) where
 mem:=by simp
 obj:=λi h st b hb=>by
  have e:b=it:=by simpa using hb
  subst e;obtain⟨o,e,c,d⟩:=st;exact⟨o,e,λv z=>by rw[d]at z;cases z⟩
 keep:=λi h h' st k=>st.at λo e=>k it (by simp) o e
 item:=by
  intro X hP hw hK hc i pins s σ H E I hf st hg;subst hP hw hK;obtain⟨xs,x,hq,hx⟩:=hg;obtain⟨its,rv,p,hz⟩:=I.list hq;obtain⟨u,hu,ru⟩:=rv.get hx;obtain⟨f0,f1,f2,f3,f4,f5⟩:=hf it (by simp);refine wpAny_pyNext_list_item st p.isList (x:=u) (by simpa using hu) λh' b0 sb=>?_
  have I1:Inv X pins σ H { s with heap:=h' }:=I.turned (t':=s.toks) (λb o hb e=>(sb.2 b hb).trans e) f0 f1 f3 f4 f5;obtain⟨o,e,c,d⟩:=id b0;exact⟨u,rfl,uF (s:={ s with heap:=h' }) e c d (by decide) ⟨x,H,I1,ru,⟨rfl,λys hy=>by rw[I.list_inj hy hq];exact hx⟩,b0,λb hb=>(hf b hb).1⟩⟩
 done:=by
  intro X hP hw hK hc i pins s σ H E I hf st hg;subst hP hw hK;obtain⟨xs,hq,hx⟩:=hg;obtain⟨its,rv,p,hz⟩:=I.list hq;obtain⟨f0,f1,f2,f3,f4,f5⟩:=hf it (by simp);have hl:=rv.length;exact wpAny_pyNext_list_end (I.ok.hd hc) st p.isList (by simp;omega) λh' eb=>⟨rfl,I.turned (t':=s.toks) (λb o hb e=>eb b o hb e) f0 f1 f3 f4 f5⟩
 self:=λ_ _ _ _ _ st h=>wpAny_pyIter_listiter st h
theorem Ag(a it:Addr):Turn P w K tg (Itt K a) [it] it (λi h=>h.IsTupleIter it a i) where
 mem:=by simp
 obj:=λi h st b hb=>by
  have e:b=it:=by simpa using hb
  subst e;obtain⟨o,e,c,d⟩:=st;exact⟨o,e,λv z=>by rw[d]at z;cases z⟩
 keep:=λi h h' st k=>st.at λo e=>k it (by simp) o e
 item:=by
  intro X hP hw hK hc i pins s σ H E I hf st hg;subst hP hw hK;obtain⟨xs,x,hq,hx⟩:=hg;obtain⟨its,rv,p,hz⟩:=I.tuple hq;obtain⟨u,hu,ru⟩:=rv.get hx;obtain⟨f0,f1,f2,f3,f4,f5⟩:=hf it (by simp);refine wpAny_pyNext_tuple_item st (show s.heap.IsTuple a its.toArray from p) (x:=u) (by simpa using hu) λh' b0 sb=>?_
  have I1:Inv X pins σ H { s with heap:=h' }:=I.turned (t':=s.toks) (λb o hb e=>(sb.2 b hb).trans e) f0 f1 f3 f4 f5;obtain⟨o,e,c,d⟩:=id b0;exact⟨u,rfl,uF (s:={ s with heap:=h' }) e c d (by decide) ⟨x,H,I1,ru,⟨rfl,λys hy=>by rw[I.tuple_inj hy hq];exact hx⟩,b0,λb hb=>(hf b hb).1⟩⟩
 done:=by
  intro X hP hw hK hc i pins s σ H E I hf st hg;subst hP hw hK;obtain⟨xs,hq,hx⟩:=hg;obtain⟨its,rv,p,hz⟩:=I.tuple hq;obtain⟨f0,f1,f2,f3,f4,f5⟩:=hf it (by simp);have hl:=rv.length;exact wpAny_pyNext_tuple_end (I.ok.hd hc) st (show s.heap.IsTuple a its.toArray from p) (by simp;omega) λh' eb=>⟨rfl,I.turned (t':=s.toks) (λb o hb e=>eb b o hb e) f0 f1 f3 f4 f5⟩
 self:=λ_ _ _ _ _ st h=>wpAny_pyIter_tupleiter st h
theorem Ah(it:Addr)(lo:Int)(n:Nat):Turn P w K tg (Itr lo n) [it] it (λi h=>IsRangeIter h it (lo+(i:Nat)*1) ((n:Int)-(i:Nat)) 1) where
 mem:=by simp
 obj:=λi h st b hb=>by
  have e:b=it:=by simpa using hb
  subst e;exact⟨_,st,λv z=>by
   have z':Data.fields _=Data.cell v:=z;cases z'⟩
 keep:=λi h h' st k=>k it (by simp) _ st
 item:=by
  intro X hP hw hK hc i pins s σ H E I hf st hg;subst hP hw hK;obtain⟨f0,f1,f2,f3,f4,f5⟩:=hf it (by simp);have W:=Walks.range (prog:=X.prog) (w:=X.w) (I.ok.hd hc) it lo 1 n;refine W.item i s _ _ hg st λv h' tk hv b0 kk=>?_;obtain⟨t,rfl⟩:=hv;have I1:Inv X pins σ H { s with heap:=h',toks:=tk }:=I.turned (λb o hb e=>kk b o (by simpa using hb) e) f0 f1 f3 f4 f5
  refine⟨_,rfl,uF (s:={ s with heap:=h',toks:=tk }) (n:="range_iterator") b0 rfl rfl (by decide) ⟨.int (lo+i),H,I1,⟨t,?_⟩,⟨rfl,rfl⟩,b0,λb hb=>(hf b hb).1⟩⟩;rw[Int.mul_one]
 done:=by
  intro X hP hw hK hc i pins s σ H E I hf st hg;subst hP hw hK;obtain⟨f0,f1,f2,f3,f4,f5⟩:=hf it (by simp);exact wpAny_pyNext_range_end (I.ok.hd hc) st (by have:n<=i:=hg;omega) λh' eb=>⟨rfl,I.turned (t':=s.toks) (λb o hb e=>eb b o hb e) f0 f1 f3 f4 f5⟩
 self:=λ_ _ _ _ _ st h=>wpAny_pyIter_rangeiter st h
variable{R:It->Hp->Prop}
theorem Dz{lo hi:Int}{t u v:Tok}{tk:Nat}(I:Inv X pins σ H s)(h1:-(2 ^ 62)<=lo)(h2:lo<2 ^ 62)(h3:-(2 ^ 62)<=hi)(h4:hi<2 ^ 62)(q:R (Itr lo (hi-lo).toNat) H):wpAny (model X.prog X.w) X.A (pyIter (.ref s.heap.objs.size)) (PIE X pins σ tg R) E { s with heap:=s.heap.push { cls:=.type "range",data:=.fields #[.int lo t,.int hi u,.int 1 v] },toks:=tk }:=by
 refine wpAny_pyIter_range (IsRange.new ..) (small_one h1 h2 h3 h4) ?_;have I1:Inv X pins σ H { s with heap:=s.heap.push { cls:=.type "range",data:=.fields #[.int lo t,.int hi u,.int 1 v] },toks:=tk }:=I.kept λb o e=>Pn _ e;refine⟨(s.heap.push { cls:=.type "range",data:=.fields #[.int lo t,.int hi u,.int 1 v] }).objs.size,[(s.heap.push { cls:=.type "range",data:=.fields #[.int lo t,.int hi u,.int 1 v] }).objs.size],_,_,H,rfl,
  I1.kept (t':=tk) λb o e=>Pn _ e,Ah _ lo (hi-lo).toNat,?_,λb hb=>?_,q⟩
 ·have e1:lo+((0:Nat):Int)*1=lo:=by simp
  have e2:(((hi-lo).toNat:Nat):Int)-((0:Nat):Int)=Builtin.Range.rangeSize lo hi 1:=by rw[rangeSize_one];split <;> omega
  show IsRangeIter _ _ (lo+((0:Nat):Int)*1) ((((hi-lo).toNat:Nat):Int)-((0:Nat):Int)) 1
  rw[e1,e2];exact Pr _ rfl
 ·have e:b=(s.heap.push { cls:=.type "range",data:=.fields #[.int lo t,.int hi u,.int 1 v] }).objs.size:=by simpa using hb
  subst e;exact I1.fpOk (Pk _) (I1.hok.fresh (Pk _))
def Nu(wi:TI)(g:TG)(tb:TS):TS:=λD σ H=>wi σ H λJ H1=>∃W:Nat->Nat->St->Hp->Prop,(∃m,W 0 m σ H1)/\∀i m σ H,W i m σ H->
 (J.stop i H/\D.nx σ H)\/(J.go i H/\∃N:St->Hp->Prop,(∀σ' H',N σ' H'->∃m',m'<m/\W (i+1) m' σ' H')/\∀x H',J.yld i H x H'->g x σ H' λσ2 H2=>tb { D with nx:=N,ct:=N,bk:=D.nx } σ2 H2)
def rC(fp:List Addr)(h:Heap):List (Addr×Obj):=fp.filterMap λb=>(h.get? b).map λo=>(b,o)
theorem gZ{fp:List Addr}{h:Heap}{b:Addr}{o:Obj}(hb:b∈fp)(e:h.get? b=some o):(b,o)∈rC fp h:=List.mem_filterMap.mpr ⟨b,hb,by rw[e];rfl⟩
theorem Cf{fp:List Addr}{h:Heap}{p:Addr×Obj}(hp:p∈rC fp h):p.1∈fp/\h.get? p.1=some p.2:=by
 obtain⟨b,hb,e⟩:=List.mem_filterMap.mp hp;cases q:h.get? b with
 |none=>rw[q]at e;cases e
 |some o=>
  rw[q]at e;have e':(b,o)=p:=PP e;subst e';exact⟨hb,q⟩
theorem Inv.pinned{fp:List Addr}(I:Inv X pins σ H s)(hf:∀b∈fp,yI X pins H b)(ho:∀b∈fp,∃o,s.heap.get? b=some o/\∀v,o.data≠.cell v):Inv X (pins++rC fp s.heap) σ H s:=
 I.pins_of λp hp=>(PK.mp hp).elim (λz=>I.pin p (Pp _ z)) λz=>by
  obtain⟨hb,e⟩:=Cf z;obtain⟨f0,f1,f2,_⟩:=hf p.1 hb;obtain⟨o,e',d⟩:=ho p.1 hb;rw[e]at e';cases e';exact⟨e,f0,f1,f2,d⟩
theorem Inv.unpinned{pl:List (Addr×Obj)}(I:Inv X (pins++pl) σ H s):Inv X pins σ H s:=I.pins_of λp hp=>I.pin p (Pp _ (Qe _ hp))
variable{iter:Expr}{wi:TI}
theorem IM{body:List Stmt}{g:TG}{tb:TS}(hp:PassesOwn (model X.prog X.w) X.A X.env X.xe)(hc:X.calm=true)(hi:PI X tg iter wi)(hg:PG X tg g)(hb:PSs X body tb)(hs:∀x,QU iter X.env x=pure x:=by intro _;rfl):PS X (.For tg iter body [] pos) (Nu wi g tb):=by
 intro pins s σ H D I h;refine wpAny_For (thn (hi pins s σ H _ I h) λv s1 h1=>thn h1 λqm s2 h2=>?_) hs;obtain⟨it,fp,tn,J,H2,e,I2,T,pw,f2,W,⟨m0,w0⟩,turn⟩:=h2;subst e
 -- what stays true of the iterator's objects through the loop
 have j9:∀{H':Hp},(∀b∈fp,H' b=none)->∀b∈fp,yI X pins H' b:=λhn b hb=>⟨hn b hb,(f2 b hb).2⟩;refine codeAny_forLoop_any (λn s'=>∃i σ' H',Inv X pins σ' H' s'/\tn i s'.heap/\(∀b∈fp,H' b=none)/\W i n σ' H') ?_ m0 ⟨0,σ,H2,I2,pw,λb hb=>(f2 b hb).1,w0⟩;rintro n s3 ⟨i,σ3,H3,I3,n5,lz,w3⟩;rcases turn i n σ3 H3 w3 with⟨stop,qn⟩|⟨go,N,hN,step⟩
 ·refine wpAny_passesOwn hp (thn (T.done X rfl rfl rfl hc i pins s3 σ3 H3 X.xe I3 (j9 lz) n5 stop) λr s4 ⟨hr,I4⟩=>?_);subst hr;exact wpAny_execs_nil ⟨σ3,H3,I4,qn⟩
 ·refine wpAny_passesOwn hp (thn (T.item X rfl rfl rfl hc i pins s3 σ3 H3 X.xe I3 (j9 lz) n5 go) λr s4 ⟨u,hr,h4⟩=>?_);subst hr;refine wpAny_passesOwn hp (thn h4 λ_ s5 hz=>?_);obtain⟨x,H5,I5,r5,y5,lp,ix⟩:=hz;have OY:=I5.pinned (j9 ix) (T.obj _ _ lp);refine wpAny_passesOwn hp (thn (hg _ s5 σ3 H5 x u _ OY r5 (step x H5 y5)) λ_ s6 ⟨σ6,H6,I6,q6⟩=>?_);refine wpAny_passesOwn hp (thn (hb _ s6 σ6 H6 _ I6 q6) λf s7 q7=>?_);have again:∀{σ7:St}{H7:Hp},Inv X (pins++rC fp s5.heap) σ7 H7 s7->N σ7 H7->∃m,m<n/\∃i σ' H',Inv X pins σ' H' s7/\tn i s7.heap/\(∀b∈fp,H' b=none)/\W i m σ' H':=λ{σ7 H7} I7 n7=>by
   obtain⟨m',hm,w7⟩:=hN σ7 H7 n7;refine⟨m',hm,i+1,σ7,H7,I7.unpinned,T.keep _ _ _ lp λb hb o e=>(I7.pin (b,o) (Pp _ (Pp _ (gZ hb e)))).1,λb hb=>?_,w7⟩;obtain⟨o,e,d⟩:=T.obj _ _ lp b hb;exact(I7.pin (b,o) (Pp _ (Pp _ (gZ hb e)))).2.1
  cases f with
  |next=>obtain⟨σ7,H7,I7,n7⟩:=q7;exact again I7 n7
  |cont=>obtain⟨σ7,H7,I7,n7⟩:=q7;exact again I7 n7
  |brk=>obtain⟨σ7,H7,I7,q7⟩:=q7;exact⟨σ7,H7,I7.unpinned,q7⟩
  |ret v=>obtain⟨x7,σ7,H7,I7,r7,q7⟩:=q7;exact⟨x7,σ7,H7,I7.unpinned,r7,q7⟩
abbrev R2:=V->V->Hp->VK->Prop
def OpR(X:Cx)(f:Value->Value->Sem Value)(r:R2):Prop:=
 ∀(pins:List (Addr×Obj))(s:Shared)(σ:St)(H:Hp)(x y:V)(v u:Value)(Q:VK),Inv X pins σ H s->RelV x v->RelV y u->r x y H Q->
  wpAny (model X.prog X.w) X.A (f v u) (EP X pins σ Q) X.xe s
def UnR(X:Cx)(f:Value->Sem Value)(r:V->Hp->VK->Prop):Prop:=
 ∀(pins:List (Addr×Obj))(s:Shared)(σ:St)(H:Hp)(x:V)(v:Value)(Q:VK),Inv X pins σ H s->RelV x v->r x H Q->
  wpAny (model X.prog X.w) X.A (f v) (EP X pins σ Q) X.xe s
def cL(X:Cx)(f:Value)(r:List V->Hp->VK->Prop):Prop:=
 ∀(pins:List (Addr×Obj))(s:Shared)(σ:St)(H:Hp)(xs:List V)(us:List Value)(Q:VK),Inv X pins σ H s->aJ xs us->r xs H Q->
  wpAny (model X.prog X.w) X.A (call f us) (EP X pins σ Q) X.xe s
def Nv(X:Cx)(r:V->Hp->(Bool->Hp->Prop)->Prop):Prop:=
 ∀(pins:List (Addr×Obj))(s:Shared)(σ:St)(H:Hp)(x:V)(v:Value)(Q:Bool->Hp->Prop),Inv X pins σ H s->RelV x v->r x H Q->
  wpAny (model X.prog X.w) X.A (truthy v) (TP X pins σ Q) X.xe s
def tOp(r:R2)(ta tb:TE):TE:=λσ H Q=>ta σ H λx H1=>tb σ H1 λy H2=>r x y H2 Q
def tUn(r:V->Hp->VK->Prop)(ta:TE):TE:=λσ H Q=>ta σ H λx H1=>r x H1 Q
def rI(C:Int->Int->Prop)(g:Int->Int->V):R2:=λx y H Q=>∃i j,x=.int i/\y=.int j/\C i j/\Q (g i j) H
def rI0(g:Int->Int->V):R2:=λx y H Q=>∃i j,x=.int i/\y=.int j/\Q (g i j) H
def rU(g:Int->V):V->Hp->VK->Prop:=λx H Q=>∃i,x=.int i/\Q (g i) H
variable{f:Value->Value->Sem Value}{g:Int->Int->Int}
section
variable{a b c:Expr}{tb tc:TE}
theorem IP(ha:PE X a ta)(hb:PE X b tb){R:V->V->Hp->Prop}(I:Inv X pins σ H s)(h:ta σ H λx H1=>tb σ H1 λy H2=>R x y H2)(hf:∀v u s2 x y H2,Inv X pins σ H2 s2->RelV x v->RelV y u->R x y H2->wpAny (model X.prog X.w) X.A (f v u) Q X.xe s2):
  wpAny (model X.prog X.w) X.A (eval a X.env) (λv s₁=>wpAny (model X.prog X.w) X.A (eval b X.env) (λu s₂=>wpAny (model X.prog X.w) X.A (f v u) Q X.xe s₂) X.xe s₁) X.xe s:=by
 refine thn (ha pins s σ H _ I h) λv s1 hz=>?_;obtain⟨x,H1,I1,r1,q1⟩:=hz;refine thn (hb pins s1 σ H1 _ I1 q1) λu s2 hz=>?_;obtain⟨y,H2,I2,r2,q2⟩:=hz;exact hf v u s2 x y H2 I2 r1 r2 q2
theorem KS{op:Operator}{r:R2}(ho:OpR X (QD op) r)(ha:PE X a ta)(hb:PE X b tb):PE X (.BinOp a op b pos) (tOp r ta tb):=by
 intro pins s σ H Q I h;exact wpAny_BinOp (IP ha hb I h λv u s2 x y H2 I2 rx ry q=>ho pins s2 σ H2 x y v u Q I2 rx ry q)
theorem KU{op:UnaryOp}{r:V->Hp->VK->Prop}(ho:UnR X (unaryOp op) r)(ha:PE X a ta):PE X (.UnaryOp op a pos) (tUn r ta):=by
 intro pins s σ H Q I h;exact UnaryOp_ (thn (ha pins s σ H _ I h) λv s1 ⟨x,H1,I1,r1,q1⟩=>ho pins s1 σ H1 x v Q I1 r1 q1)
theorem opI{C:Int->Int->Prop}(rule:∀(i j:Int)(t u:Tok)(s:Shared)(Q:Value->Shared->Prop)(E:Value->Shared->Prop),C i j->Q (.int (g i j) s.toks) { s with toks:=s.toks+1 }->wpAny (model X.prog X.w) X.A (f (.int i t) (.int j u)) Q E s):
  OpR X f (rI C λi j=>.int (g i j)):=by
 intro pins s σ H x y v u Q I rx ry h;obtain⟨i,j,rfl,rfl,hc,q⟩:=h;obtain⟨t,rfl⟩:=rx;obtain⟨t',rfl⟩:=ry;exact rule i j t t' s _ _ hc ⟨.int (g i j),H,I.tok _,⟨_,rfl⟩,q⟩
theorem KW(rule:∀(i j:Int)(t u:Tok)(s:Shared)(Q:Value->Shared->Prop)(E:Value->Shared->Prop),Q (.int (g i j) s.toks) { s with toks:=s.toks+1 }->wpAny (model X.prog X.w) X.A (f (.int i t) (.int j u)) Q E s):
  OpR X f (rI0 λi j=>.int (g i j)):=by
 intro pins s σ H x y v u Q I rx ry h;obtain⟨i,j,rfl,rfl,q⟩:=h;obtain⟨t,rfl⟩:=rx;obtain⟨t',rfl⟩:=ry;exact rule i j t t' s _ _ ⟨.int (g i j),H,I.tok _,⟨_,rfl⟩,q⟩
theorem IQ{g:Int->Int->Bool}(rule:∀(i j:Int)(t u:Tok)(s:Shared)(Q:Value->Shared->Prop)(E:Value->Shared->Prop),Q (.bool (g i j)) s->wpAny (model X.prog X.w) X.A (f (.int i t) (.int j u)) Q E s):
  OpR X f (rI0 λi j=>.bl (g i j)):=by
 intro pins s σ H x y v u Q I rx ry h;obtain⟨i,j,rfl,rfl,q⟩:=h;obtain⟨t,rfl⟩:=rx;obtain⟨t',rfl⟩:=ry;exact rule i j t t' s _ _ ⟨.bl (g i j),H,I,rfl,q⟩
def DA(i j:Int):Prop:=0<j/\j<1073741824
def Cg(i j:Int):Prop:=0<=j/\j<=1000000/\i.natAbs<2 ^ 64
def yJ(i j:Int):Prop:=(-(2 ^ 64)<i/\i<2 ^ 64)\/(-(2 ^ 64)<j/\j<2 ^ 64)
theorem yJ.ok{i j:Int}(h:yJ i j):IntMulOk i j:=by
 rcases h with⟨h1,h2⟩|⟨h1,h2⟩
 ·exact .of_left (intBits_le_64 h1 h2)
 ·exact .of_right (intBits_le_64 h1 h2)
theorem IR:OpR X (QD .Add) (rI0 λi j=>.int (i+j)):=KW λ_ _ _ _ _ _ _ q=>add_int q
theorem IS:OpR X (QD .Sub) (rI0 λi j=>.int (i-j)):=KW λ_ _ _ _ _ _ _ q=>sub_int q
theorem IT:OpR X (QD .Mult) (rI yJ λi j=>.int (i*j)):=opI λ_ _ _ _ _ _ _ hc q=>mul_int q hc.ok
theorem G7:OpR X (QD .FloorDiv) (rI DA λi j=>.int (i/j)):=opI λi j _ _ _ _ _ hc q=>by
 have h1:(0:Int)<j:=hc.1;have h2:j<1073741824:=hc.2;exact floordiv_int (by omega) (by rw[Int.fdiv_eq_ediv_of_nonneg i (by omega)];exact q) (.inl (PyProof.noPylong_small (by omega)))
theorem IU:OpR X (QD .Mod) (rI (λ_ j=>0<j) λi j=>.int (i%j)):=opI λi j _ _ _ _ _ hc q=>by
 have h1:(0:Int)<j:=hc;exact mod_int' (by omega) (by rw[Int.fmod_eq_emod_of_nonneg i (by omega)];exact q)
theorem IV:OpR X (QD .Pow) (rI Cg λi j=>.int (i ^ j.toNat)):=opI λ_ _ _ _ _ _ _ hc q=>pow_int_small hc.1 hc.2.1 hc.2.2 q
theorem unI{f:Value->Sem Value}{g:Int->Int}
  (rule:∀(i:Int)(t:Tok)(s:Shared)(Q:Value->Shared->Prop)(E:Value->Shared->Prop),Q (.int (g i) s.toks) { s with toks:=s.toks+1 }->wpAny (model X.prog X.w) X.A (f (.int i t)) Q E s):
  UnR X f (rU λi=>.int (g i)):=by
 intro pins s σ H x v Q I rx h;obtain⟨i,rfl,q⟩:=h;obtain⟨t,rfl⟩:=rx;exact rule i t s _ _ ⟨.int (g i),H,I.tok _,⟨_,rfl⟩,q⟩
theorem IW:UnR X (unaryOp .USub) (rU λi=>.int (-i)):=unI λ_ _ _ _ _ q=>neg_int q
end
variable{op:CmpOp}{jx:CmpOp}{its:List Value}
section
variable{a b c:Expr}{tb tc:TE}
theorem vV{Q:VK}{k k':Bool}(I:Inv X pins σ H s)(q:Q (.bl k) H)(e:k=k'):EP X pins σ Q (.bool k') s:=by
 subst e;exact⟨.bl k,H,I,rfl,q⟩
theorem KY:OpR X (P4 .Lt) (rI0 λi j=>.bl (decide (i<j))):=IQ λ_ _ _ _ _ _ _ q=>lt_int q
theorem KZ:OpR X (P4 .LtE) (rI0 λi j=>.bl (decide (i<=j))):=IQ λ_ _ _ _ _ _ _ q=>le_int q
theorem L0:OpR X (P4 .Gt) (rI0 λi j=>.bl (decide (j<i))):=IQ λ_ _ _ _ _ _ _ q=>gt_int q
theorem Ci:OpR X (P4 .Lt) (λx y H Q=>∃i j,x=.str i/\y=.str j/\Q (.bl (decide (i.cps.toList<j.cps.toList))) H):=by
 intro pins s σ H x y v u Q I rx ry h;obtain⟨i,j,rfl,rfl,q⟩:=h;obtain⟨t,rfl⟩:=rx;obtain⟨t',rfl⟩:=ry;exact lt_str (vV I q rfl)
theorem G8:OpR X (P4 .IsNot) (λx y H Q=>y=.non/\Q (.bl (!decide (x=.non))) H):=by
 intro pins s σ H x y v u Q I rx ry h;obtain⟨rfl,q⟩:=h;cases ry
 refine isnot_none_gen (vV I q ?_);cases x <;> first
  |(cases rx;rfl)
  |(obtain⟨t,rfl⟩:=rx;rfl)
theorem OpR.or{r r':R2}(h:OpR X f r)(h':OpR X f r'):OpR X f (λx y H Q=>r x y H Q\/r' x y H Q):=by
 intro pins s σ H x y v u Q I rx ry q;rcases q with q|q
 ·exact h pins s σ H x y v u Q I rx ry q
 ·exact h' pins s σ H x y v u Q I rx ry q
theorem DB(b:Expr)(h:op≠.In:=by decide)(h2:op≠.NotIn:=by decide):behindInMarks op b=false:=by
 have e1:(op == CmpOp.In)=false:=by cases op <;> first|rfl|exact absurd rfl h
 have e2:(op == CmpOp.NotIn)=false:=by cases op <;> first|rfl|exact absurd rfl h2
 cases b <;> simp[behindInMarks,e1,e2]
theorem G9{r:R2}(ho:OpR X (P4 op) r)(ha:PE X a ta)(hb:PE X b tb)(hm:behindInMarks op b=false):PE X (.Compare a [op] [b] pos) (tOp r ta tb):=by
 intro pins s σ H Q I h;exact wpAny_Compare1 (IP ha hb I h λv u s2 x y H2 I2 rx ry q=>ho pins s2 σ H2 x y v u Q I2 rx ry q) hm
def L1(t:TE):TT:=λσ H Q=>t σ H λx H'=>∃k,x=.bl k/\Q k H'
def DC(r r':R2)(ta tb tc:TE):TE:=λσ H Q=>ta σ H λx H1=>tb σ H1 λy H2=>r x y H2 λz H3=>∃k,z=.bl k/\
 (if k=true then tc σ H3 λw' H4=>r' y w' H4 Q else Q (.bl false) H3)
theorem DD{r r':R2}(ho:OpR X (P4 op) r)(cp:OpR X (P4 jx) r')(ha:PE X a ta)(hb:PE X b tb)(hc:PE X c tc)(hm:lastMarks [op,jx] [b,c]=false:=by with_unfolding_all rfl):PT X (.Compare a [op,jx] [b,c] pos) (L1 (DC r r' ta tb tc)):=by
 intro pins s σ H Q I h;refine isTrue_chain (thn (ha pins s σ H _ I h) λv s1 ⟨x,H1,I1,r1,q1⟩=>test_link (thn (hb pins s1 σ H1 _ I1 q1) λu s2 ⟨y,H2,I2,r2,q2⟩=>
  thn (ho pins s2 σ H2 x y v u _ I2 r1 r2 q2) λd s3 ⟨z,H3,I3,r3,k,e,q3⟩=>?_)) hm
 subst e;cases r3
 refine RP ?_;cases k with
 |false=>
  obtain⟨k',e',q'⟩:=q3;cases e'
  exact ite_ff ⟨H3,I3,q'⟩
 |true=>
  refine ite_tt (test_last (thn (hc pins s3 σ H3 _ I3 q3) λw' s4 ⟨z',H4,I4,r4,q4⟩=>thn (cp pins s4 σ H4 y z' u w' _ I4 r2 r4 q4) λd' s5 hz=>?_));obtain⟨z2,H5,I5,r5,k2,e2,q5⟩:=hz;subst e2;cases r5
  exact RP ⟨H5,I5,q5⟩
def Ai(K:Pi)(x:V)(H:Hp)(k:Bool):Prop:=
 match x with
 |.non=>k=false
 |.bl b=>k=b
 |.int i=>k=(i != 0)
 |.str y=>y.length<=Pt/\k=((y.length:Int) != 0)
 |.byt y=>y.size<=Pt/\k=((y.size:Int) != 0)
 |.ref p=>(∃xs,SqL K H p xs/\k=!xs.isEmpty)\/(∃xs,SqT K H p xs/\k=!xs.isEmpty)\/∃kvs,H p=some (.dK kvs)/\k=!kvs.isEmpty
 |_=>False
theorem Aj{κ:Type}{kvs:List (κ×V)}{vs:List (κ×Value)}(r:KV kvs vs):(!vs.isEmpty)=!kvs.isEmpty:=by
 cases r <;> rfl
theorem rD{xs:List V}(r:aJ xs its):(!its.toArray.isEmpty)=!xs.isEmpty:=by
 cases r <;> simp
theorem kT:(Pt:Nat)<2 ^ 63:=by rw[QE];decide
theorem DE:Nv X (λx H Q=>∃k,Ai X.K x H k/\Q k H):=by
 intro pins s σ H x v Q I rx h;obtain⟨k,e,q⟩:=h;have hl:=kT;have hs:Pt=16777216:=QE;cases x with
 |non=>
  cases rx
  have e':k=false:=e;subst e';exact truthy_none ⟨H,I,q⟩
 |bl b=>
  cases rx
  have e':k=b:=e;subst e';exact RP ⟨H,I,q⟩
 |int i=>
  obtain⟨t,rfl⟩:=rx;have e':k=(i != 0):=e;subst e';exact PySem.P.truthy_int ⟨H,I,q⟩
 |str y=>
  obtain⟨t,rfl⟩:=rx;obtain⟨hy,e'⟩:y.length<=Pt/\k=((y.length:Int) != 0):=e;subst e';exact PySem.P.truthy_str (by omega) ⟨H,I.tok _,q⟩
 |byt y=>
  obtain⟨t,rfl⟩:=rx;obtain⟨hy,e'⟩:y.size<=Pt/\k=((y.size:Int) != 0):=e;subst e';exact PySem.W.truthy_bytes (by omega) ⟨H,I.tok _,q⟩
 |ref p=>
  cases rx
  have e':(∃xs,SqL X.K H p xs/\k=!xs.isEmpty)\/(∃xs,SqT X.K H p xs/\k=!xs.isEmpty)\/∃kvs,H p=some (.dK kvs)/\k=!kvs.isEmpty:=e;rcases e' with⟨xs,hx,e'⟩|⟨xs,hx,e'⟩|⟨kvs,hx,e'⟩
  ·subst e';obtain⟨its,r,pl,hz⟩:=I.list hx;have hlen:=r.length;exact wpAny_truthy_list pl.isList (by simp only[Pq];omega) ⟨H,I.tok _,by rw[rD r];exact q⟩
  ·subst e';obtain⟨its,r,pl,hz⟩:=I.tuple hx;have hlen:=r.length;exact truthy_tuple pl (by simp only[Pq];omega) ⟨H,I.tok _,by rw[rD r];exact q⟩
  ·subst e';obtain⟨hz,hS,vs,r,m⟩:kvs.length<=Pt/\(p == Qm)=false/\∃vs,KV kvs vs/\s.heap.DictOf (aP X.prog X.w) p vs:=I.hok p _ hx;have hlen:kvs.length=vs.length:=Qi r;exact wpAny_truthy_dict hS m (by omega) ⟨H,I.tok _,by rw[Aj r];exact q⟩
 |_=>exact(show False from e).elim
theorem DF(ha:PE X a ta)(he:∀whole,isTrue a X.env whole=(do let v <-whole;standAt a.pos;holding [v] (truthy v))):
  PT X a (λσ H Q=>ta σ H λx H'=>∃k,Ai X.K x H' k/\Q k H'):=by
 intro pins s σ H Q I h
 exact isTrue_plain (thn (ha pins s σ H _ I h) λv s1 ⟨x,H1,I1,r1,q1⟩=>DE pins s1 σ H1 x v Q I1 r1 q1) (he _)
theorem Ak:OpR X (QD .Add) (λx y H Q=>∃i j,x=.str i/\y=.str j/\i.length+j.length<=Pt/\Q (.str (i++j)) H):=by
 intro pins s σ H x y v u Q I rx ry h;obtain⟨i,j,rfl,rfl,hz,q⟩:=h;obtain⟨t,rfl⟩:=rx;obtain⟨t',rfl⟩:=ry;exact add_str (λt' tk=>⟨.str (i++j),H,I.tok _,⟨_,rfl⟩,q⟩) hz
theorem vals1{x:V}(r:aJ [x] us):∃u,us=[u]/\RelV x u:=by
 cases r with
 |cons r1 r2=>cases r2;exact⟨_,rfl,r1⟩
theorem vals2{x:V}(r:aJ [x,y] us):∃u w',us=[u,w']/\RelV x u/\RelV y w':=by
 cases r with
 |cons r1 r2=>
  cases r2 with
  |cons r3 r4=>cases r4;exact⟨_,_,rfl,r1,r3⟩
theorem Cj(hc:X.calm=true):cL X (.builtin "max") (λxs H Q=>∃i j,xs=[.int i,.int j]/\Q (.int (if j>i then j else i)) H):=by
 intro pins s σ H xs us Q I r h;obtain⟨i,j,rfl,q⟩:=h;obtain⟨u,w',rfl,⟨t,rfl⟩,⟨t',rfl⟩⟩:=vals2 r;refine max_two_ints (I.ok.hd hc) λh' tk k=>⟨_,H,I.kept k,?_,q⟩
 by_cases hj:j>i
 ·rw[if_pos hj,if_pos hj];exact⟨_,rfl⟩
 ·rw[if_neg hj,if_neg hj];exact⟨_,rfl⟩
def Nw(K:Pi)(x:V)(H:Hp)(n:Nat):Prop:=
 match x with
 |.str y=>y.length<=Pt/\n=y.length
 |.byt y=>y.size<=Pt/\n=y.size
 |.ref p=>(∃xs,SqL K H p xs/\n=xs.length)\/∃xs,SqT K H p xs/\n=xs.length
 |_=>False
theorem DG:cL X (.builtin "len") (λxs H Q=>∃x n,xs=[x]/\Nw X.K x H n/\Q (.int n) H):=by
 intro pins s σ H xs us Q I r h;obtain⟨x,n,rfl,e,q⟩:=h;obtain⟨u,rfl,rx⟩:=vals1 r;have hl:=kT;have hs:Pt=16777216:=QE;cases x with
 |str y=>
  obtain⟨t,rfl⟩:=rx;obtain⟨hy,e'⟩:y.length<=Pt/\n=y.length:=e;subst e';exact len_str (by omega) ⟨.int _,H,I.tok _,⟨_,rfl⟩,q⟩
 |byt y=>
  obtain⟨t,rfl⟩:=rx;obtain⟨hy,e'⟩:y.size<=Pt/\n=y.size:=e;subst e';exact PySem.W.len_bytes (by omega) ⟨.int _,H,I.tok _,⟨_,rfl⟩,q⟩
 |ref p=>
  cases rx
  have e':(∃xs,SqL X.K H p xs/\n=xs.length)\/∃xs,SqT X.K H p xs/\n=xs.length:=e;rcases e' with⟨xs,hx,e'⟩|⟨xs,hx,e'⟩
  ·subst e';obtain⟨its,r',pl,hz⟩:=I.list hx;have hlen:=r'.length;exact Calls.call_len_list pl.isList (by simp only[Pq];omega) ⟨.int xs.length,H,I.tok _,⟨_,by simp only[Pq];rw[hlen]⟩,q⟩
  ·subst e';obtain⟨its,r',pl,hz⟩:=I.tuple hx;have hlen:=r'.length;exact len_tuple pl (by simp only[Pq];omega) ⟨.int xs.length,H,I.tok _,⟨_,by simp only[Pq];rw[hlen]⟩,q⟩
 |_=>exact(show False from e).elim
end
structure Al(h:Heap)(x dx C:Addr)(mA:Str->Option Value):Prop where
 obj:h.get? x=some (Rv C dx)
 ns:h.Ns1 dx mA
 ne:dx≠x
variable{dx:Addr}{mA:Str->Option Value}
set_option tactic.hygienic true in
theorem Ck{h:Heap}(n:h.Ns1 dx mA):∃od,h.get? dx=some od/\∀name,PySem.W.lookIn name od=some (mA name):=by
 obtain⟨o,es,ep,ho,hd,hk,_,hm⟩:=n;refine⟨o,ho,λname=>?_⟩;have e:=hm name;unfold nsFind findBy at e;rw[<-Array.find?_toList]at e;unfold PySem.W.lookIn;rw[hd];dsimp only;split
 ·rename_i y q;rw[q]at e;exact congrArg some e
 ·rename_i q;rw[q]at e;have a:es.toList.any (·.refKey)=false:=by
   rw[List.any_eq_false];intro y hy;obtain⟨z,t,aj⟩:=hk y (Array.mem_toList_iff.mp hy);simp[DictEntry.refKey,aj]
  have a':¬ es.toList.any (·.refKey)=true:=by rw[a];exact Px
  rw[if_neg a'];exact congrArg some e
theorem Al.look{h:Heap}{x C:Addr}(I:Al h x dx C mA):∃od,PySem.W.InstAt h x (Rv C dx) C (some od)/\∀name,PySem.W.lookIn name od=some (mA name):=
 let ⟨od,ho,hl⟩:=Ck I.ns
 ⟨od,⟨I.obj,rfl,rfl,ho⟩,hl⟩
variable{expr:Bool}{name:Str}{prog:Program}{kw:List (Str×Value)}
section
variable{x C f:Addr}{v:Value}
theorem get_map(X:K.In s.heap)(I:Al s.heap x dx C mA)(hg:SC K C name=true)(hh:PySem.W.hasDictIn K C=true)(ha:Qo K (.ref C) name=some none)(hv:mA name=some v)(t8:PySem.W.handedIn v=true)(h:Q v { s with toks:=s.toks+1 }):
  wpAny (model prog w) A (getAttr (.ref x) name expr) Q E s:=by
 obtain⟨od,J,hl⟩:=I.look;exact PySem.W.get_value X J (PySem.W.plainGet_of hg).1 (PySem.W.findObj_own hh ha rfl (by rw[hl,hv])) t8 h
theorem DH{pl:Sem Bool}{Q:Value×List Value->Shared->Prop}(X:K.In s.heap)(I:Al s.heap x dx C mA)(hg:SC K C name=true)
  (hf:Qo K (.ref C) name=some (some (.ref f))) (ht:PySem.W.isFn K (.ref f)=true) (hv:mA name=none) (h:Q (.ref f,[.ref x]) s):
  wpAny (model prog w) A (getMethod (.ref x) name pl) Q E s:=by
 obtain⟨od,J,hl⟩:=I.look;exact PySem.W.method_fn X J (PySem.W.plainGet_of hg).1 (PySem.W.plainGet_of hg).2 hf (beq_iff_eq.mp ht) (by show(PySem.W.lookIn name od).map (·.isSome)=some false;rw[hl,hv];rfl) h
theorem Ga{ns:List Str}{Q:Unit->Shared->Prop}(X:K.In s.heap)(I:Al s.heap x dx C mA)
  (hs:Qo K (.ref C) "__setattr__" = some (some (.builtin "object.__setattr__"))) (hp:PySem.W.plainOver K C=true) (ht:PySem.W.takerIn K C name=some none) (hh:PySem.W.hasDictIn K C=true)
  (hw:PySem.Within mA ns) (hsz:ns.length<=Pt)
  (h:∀h',Al h' x dx C (λy=>if y=name then some v else mA y)->QN dx s.heap h'->Q () { s with heap:=h',toks:=s.toks+2 }):
  wpAny (model prog w) A (setAttr (.ref x) name v) Q E s:=by
 obtain⟨od,J,hl⟩:=I.look;refine PySem.W.set_plain X J hs (PySem.W.osa_open (s:={ s with toks:=s.toks+1 }) (r:=none) X J hp ht λb=>?_);obtain⟨cd,hc,dq⟩:=PySem.W.any_some hh;have hx:s.heap.get? x=some ⟨.ref C,some dx,.plain,#[]⟩:=I.obj;refine Pf (Ph (Pf (Pf (wpAny_loadPart hx (Pf (PySem.W.Looks.here (s:={ s with toks:=s.toks+1 }) (PySem.W.looks_clsIn X hc) ?_))))));rw[dq];refine Ph (a:=some dx) (Pf (Ph (Pf ?_)));refine wpAny_nsSet1 (s:={ s with toks:=s.toks+1 }) I.ns λh' qk vi=>?_;obtain⟨oD,esD,epD,OH,hdD,zo⟩:=qk.count (PySem.Within.cons name v hw);refine Pf (wpAny_lookBehind OH (by rw[hdD];exact pastItsLine_dict (P6 zo (by rw[Qs];omega))) ?_);exact Ph (h _ ⟨(vi.2 _ (Ri I.ne)).trans I.obj,qk,I.ne⟩ vi)
theorem DI{R:Result->Shared->Prop}{vs:List Value}(X:K.In s.heap)(hm:PySem.W.makesIn K C=true)(hi:Qo K (.ref C) "__init__" = some (some (.ref f)))(hf:PySem.W.typeIn K (.ref f)=some (.type "function"))(h:codeAny (model prog w) (A.under (.builtin "type.__call__" ⟨.ref C::vs,kw⟩)) (.call (.ref f) ⟨.ref (s.heap.objs.size+1)::vs,kw⟩) (PySem.W.InitBack (s.heap.objs.size+1) R)
   { s with heap:=(s.heap.push QV).push (Rv C s.heap.objs.size) }):
  codeAny (model prog w) A (.call (.ref C) ⟨vs,kw⟩) R s:=by
 obtain⟨hh,g,d,t,os⟩:=s;exact PySem.W.make_core (PySem.W.makes_of X hm) (PySem.W.looks_findIn X hi) (λself=>PySem.W.bind_fn X self hf) (.inl rfl) h
end
def fX(f:Str)(v:V):List (Str×V)->List (Str×V)
 |[]=>[(f,v)]
 |(g,x)::r=>if g=f then(g,v)::r else(g,x)::fX f v r
theorem pS(f g:Str)(v:V):∀fs:List (Str×V),(fX f v fs).lookup g=if g=f then some v else fs.lookup g
 |[]=>by
  show Sf g [(f,v)]=_
  by_cases h:g=f
  ·have hb:(g == f)=true:=beq_iff_eq.mpr h;simp only[Sf,hb,if_pos h]
  ·have hb:(g == f)=false:=beq_eq_false_iff_ne.mpr h;simp only[Sf,hb,if_neg h]
 |(k,x)::r=>by
  have ih:=pS f g v r;rw[show fX f v ((k,x)::r)=(if k=f then(k,v)::r else(k,x)::fX f v r) from rfl]
  by_cases hk:k=f
  ·rw[if_pos hk]
   by_cases h:g=k
   ·have hb:(g == k)=true:=beq_iff_eq.mpr h;simp only[Sf,hb,if_pos (h.trans hk)]
   ·have hb:(g == k)=false:=beq_eq_false_iff_ne.mpr h;simp only[Sf,hb,if_neg (λe:g=f=>h (e.trans hk.symm))]
  ·rw[if_neg hk]
   by_cases h:g=k
   ·have hb:(g == k)=true:=beq_iff_eq.mpr h;simp only[Sf,hb,if_neg (λe:g=f=>hk (h.symm.trans e))]
   ·have hb:(g == k)=false:=beq_eq_false_iff_ne.mpr h;simp only[Sf,hb];exact ih
theorem oA(f:Str)(v:V):∀fs:List (Str×V),f∈(fX f v fs).map (·.1)/\∀g,g∈fs.map (·.1)->g∈(fX f v fs).map (·.1)
 |[]=>⟨by simp[fX],λg h=>by simp at h⟩
 |(k,x)::r=>by
  obtain⟨i1,i2⟩:=oA f v r;rw[show fX f v ((k,x)::r)=(if k=f then(k,v)::r else(k,x)::fX f v r) from rfl]
  by_cases hk:k=f
  ·rw[if_pos hk];subst hk;exact⟨by simp,λg h=>by simpa using h⟩
  ·rw[if_neg hk];refine⟨?_,λg h=>?_⟩
   ·rw[Pv];exact Pj _ i1
   ·rw[Pv]at h⊢;rcases PC.mp h with e|e
    ·exact PC.mpr (.inl e)
    ·exact Pj _ (i2 g e)
theorem pT(f:Str)(v:V):∀fs:List (Str×V),(fX f v fs).length<=fs.length+1
 |[]=>by simp[fX]
 |(k,x)::r=>by
  have ih:=pT f v r;rw[show fX f v ((k,x)::r)=(if k=f then(k,v)::r else(k,x)::fX f v r) from rfl]
  by_cases hk:k=f
  ·rw[if_pos hk,Qs,Qs];omega
  ·rw[if_neg hk,Qs,Qs];omega
theorem iU.some_of{o:Option Value}(r:iU (some v) o):∃u,o=some u/\RelV v u:=by
 cases o with
 |none=>exact(show False from r).elim
 |some u=>exact⟨u,rfl,r⟩
theorem iU.none_of{o:Option Value}(r:iU none o):o=none:=by
 cases o with
 |none=>rfl
 |some u=>exact(show False from r).elim
theorem Cm(r:RelV v u):PySem.W.handedIn u=true:=by
 cases v with
 |non=>cases(show u=PU from r);rfl
 |bl b=>cases(show u=Value.bool b from r);rfl
 |int i=>obtain⟨t,e⟩:=(show ∃t,u=Value.int i t from r);cases e;rfl
 |str x=>obtain⟨t,e⟩:=(show ∃t,u=Value.str x t from r);cases e;rfl
 |byt b=>obtain⟨t,e⟩:=(show ∃t,u=Value.bytes b t from r);cases e;rfl
 |flt b=>obtain⟨t,e⟩:=(show ∃t,u=Value.float b t from r);cases e;rfl
 |ref a=>cases(show u=P7 a from r);rfl
 |ty n=>cases(show u=Value.type n from r);rfl
section
variable{h:Heap}{C:Addr}{fs j3:List (Str×V)}
theorem qQ(hok:HOk P w H h)(e:H a=some (.ins C dx fs)):∃mA,Al h a dx C mA/\(∀f,iU (fs.lookup f) (mA f))/\PySem.Within mA (fs.map (·.1))/\fs.length<=1000/\H dx=some (.own a):=by
 obtain⟨d,z,ne,ob,mA,n,r,q⟩:=(show aZ P w H h a (.ins C dx fs) from hok a _ e)
 exact⟨mA,⟨ob,n,ne⟩,r,q,z,d⟩
end
structure Cls(K:Pi)(C:Addr):Prop where
 pg:SC K C Str.empty=true
 hd:PySem.W.hasDictIn K C=true
 po:PySem.W.plainOver K C=true
 sa:Qo K (.ref C) "__setattr__" = some (some (.builtin "object.__setattr__"))
theorem Cls.get{C:Addr}(c:Cls K C)(f:Str):SC K C f=true:=c.pg
def fY(K:Pi)(C:Addr)(f:Str):Prop:=Qo K (.ref C) f=some none
theorem fY.taker{C:Addr}{f:Str}(n:fY K C f):PySem.W.takerIn K C f=some none:=by
 unfold PySem.W.takerIn;rw[show Qo K (.ref C) f=some none from n]
 rfl
structure Cn(K:Pi)(C:Addr)(m:Str)(f:Addr):Prop where
 at_:Qo K (.ref C) m=some (some (.ref f))
 fn:PySem.W.isFn K (.ref f)=true
 kp:Rh K (.ref f)=true
variable{b:Bool}{env:Env}
section
variable{C:Addr}{fs:List (Str×V)}{f:Str}
theorem rE(I:Inv X pins σ H s)(e:H a=some (.ins C dx fs))(c:Cls X.K C)(n:fY X.K C f)(l:fs.lookup f=some v)(h:∀u s',Inv X pins σ H s'->RelV v u->Q u s'):wpAny (model X.prog X.w) A (getAttr (.ref a) f b) Q E s:=by
 obtain⟨mA,O,r,_,_,_⟩:=qQ I.hok e;obtain⟨u,hu,ru⟩:=iU.some_of (v:=v) (o:=mA f) (by rw[<-l];exact r f);exact get_map I.kIn O (c.get f) c.hd n hu (Cm ru) (h u _ (I.tok _) ru)
theorem Am{m:Str}{g:Addr}{pl:Sem Bool}{Q:Value×List Value->Shared->Prop}(I:Inv X pins σ H s)(e:H a=some (.ins C dx fs))(c:Cls X.K C)(k:Cn X.K C m g)(l:fs.lookup m=none)
  (h:Q (.ref g,[.ref a]) s):wpAny (model X.prog X.w) A (getMethod (.ref a) m pl) Q E s:=by
 obtain⟨mA,O,r,_,_,_⟩:=qQ I.hok e;have hn:mA m=none:=iU.none_of (by rw[<-l];exact r m);exact DH I.kIn O (c.get m) k.at_ k.fn hn h
theorem rF{Q:Unit->Shared->Prop}(I:Inv X pins σ H s)(e:H a=some (.ins C dx fs))(c:Cls X.K C)(n:fY X.K C f)(hl:fs.length<1000)(ry:RelV y u)(h:∀s',Inv X pins σ (upd H a (.ins C dx (fX f y fs))) s'->Q () s'):wpAny (model X.prog X.w) A (setAttr (.ref a) f u) Q E s:=by
 obtain⟨mA,O,r,wi,_,ho⟩:=qQ I.hok e;have hz:(fs.map (·.1)).length<=Pt:=by rw[Pl,QE];omega
 refine Ga I.kIn O c.sa c.po n.taker c.hd wi hz λh' O' sb=>h _ ?_;have hd:∃o,h'.get? dx=some o:=let ⟨o,_,_,e',_⟩:=O'.ns;⟨o,e'⟩;refine I.write (x:=a) (e:=dx) (by rw[e];exact QW) (.inr ho) (λb q hb z=>(sb.2 b hb).trans z) hd ?_;refine⟨by rw[aE O.ne];exact ho,?_,O.ne,O'.obj,_,O'.ns,λg=>?_,λg hg=>?_⟩
 ·have:=pT f y fs;omega
 ·show iU ((fX f y fs).lookup g) (if g=f then some u else mA g)
  rw[pS]
  by_cases q:g=f
  ·rw[if_pos q,if_pos q];exact ry
  ·rw[if_neg q,if_neg q];exact r g
 ·by_cases q:g=f
  ·rw[q];exact(oA f y fs).1
  ·refine(oA f y fs).2 g (wi g λz=>hg ?_)
   show(if g=f then some u else mA g)=none
   rw[if_neg q];exact z
theorem Inv.made(I:Inv X pins σ H s):Inv X pins σ (upd (upd H s.heap.objs.size (.own (s.heap.objs.size+1))) (s.heap.objs.size+1) (.ins C s.heap.objs.size []))
  { s with heap:=(s.heap.push QV).push (Rv C s.heap.objs.size) }:=by
 have e1:(s.heap.push QV).get? s.heap.objs.size=some QV:=Pr s.heap rfl;have e2:((s.heap.push QV).push (Rv C s.heap.objs.size)).get? (s.heap.objs.size+1)=some (Rv C s.heap.objs.size):=by
  have:=Pr (s.heap.push QV) (o:=Rv C s.heap.objs.size) rfl
  rwa[Sv]at this
 have e3:(s.heap.push QV).Ns s.heap.objs.size (λ_=>none):=⟨QV,#[],_,e1,rfl,(λe he=>absurd he (by simp)),λ_=>rfl⟩;have I1:=I.laid (a:=s.heap.objs.size) (o:=.own (s.heap.objs.size+1)) (h':=s.heap.push QV) (t':=s.toks) (λb u q=>Pn _ q) (Pk _) ⟨_,e1⟩;refine I1.laid (a:=s.heap.objs.size+1) (o:=.ins C s.heap.objs.size []) (t':=s.toks) (λb u q=>Pn _ q) (Nat.le_of_eq (Sv _ _)) ?_;have ne:s.heap.objs.size≠s.heap.objs.size+1:=Qd (Nat.lt_succ_self _);refine⟨by rw[aE ne,aI],P8 _,ne,e2,λ_=>none,(Heap.Ns1.of_empty e3).at λo q=>Pn _ q,λ_=>QW,λy hy=>absurd rfl hy⟩
theorem Gb{f:Str}(hb:R1 e f env (eval e env)=eval e env)(h:wpAny (model prog w) A (eval e env) (λo s₁=>wpAny (model prog w) A (getAttr o f true) Q E s₁) E s):wpAny (model prog w) A (eval (.Attribute e f pos) env) Q E s:=
 Attribute_any_ h (by rw[arm_eval_Attribute,hb])
end
def Nx(K:Pi)(ta:TE)(f:Str):TE:=λσ H Q=>ta σ H λx H1=>∃a C dx fs v,x=.ref a/\H1 a=some (.ins C dx fs)/\Cls K C/\fY K C f/\fs.lookup f=some v/\Q v H1
def Ny(K:Pi)(ta tv:TE)(f:Str):TS:=λD σ H=>tv σ H λy H1=>ta σ H1 λx H2=>∃a C dx fs,x=.ref a/\H2 a=some (.ins C dx fs)/\Cls K C/\fY K C f/\fs.length<1000/\
 D.nx σ (upd H2 a (.ins C dx (fX f y fs)))
def L3(X:Cx)(op:Operator)(rd:V->V->Hp->VK->Prop):Prop:=
 ∀(pins:List (Addr×Obj))(s:Shared)(σ:St)(H:Hp)(x y:V)(u v:Value)(Q:VK),Inv X pins σ H s->RelV x u->RelV y v->rd x y H Q->wpAny (model X.prog X.w) X.A (inplaceOp op u v) (EP X pins σ Q) X.xe s
def Gc(K:Pi)(ta tv:TE)(rd:V->V->Hp->VK->Prop)(f:Str):TS:=λD σ H=>ta σ H λx H1=>∃a C dx fs v,x=.ref a/\H1 a=some (.ins C dx fs)/\Cls K C/\fY K C f/\fs.lookup f=some v/\
 tv σ H1 λy H2=>rd v y H2 λz H3=>∃ui j3,H3 a=some (.ins C ui j3)/\j3.length<1000/\D.nx σ (upd H3 a (.ins C ui (fX f z j3)))
theorem IX{f:Str}(he:PE X e ta)(hb:R1 e f X.env (eval e X.env)=eval e X.env):PE X (.Attribute e f pos) (Nx X.K ta f):=by
 intro pins s σ H Q I h;refine Gb hb (thn (he pins s σ H _ I h) λu s1 hz=>?_);obtain⟨x,H1,I1,rx,a,C,dx,fs,v,ex,ea,c,n,l,q⟩:=hz;subst ex;obtain rfl:u=P7 a:=rx;exact rE I1 ea c n l λu' s2 I2 ru=>⟨v,H1,I2,ru,q⟩
variable{tv:TE}{value:Expr}
theorem IY{o:Expr}{f:Str}(ha:PE X o ta)(hv:PE X value tv)(hs:SS value (some (.Attribute o f pos')) pos.line X.env=pure false):PS X (.Assign [.Attribute o f pos'] value pos) (Ny X.K ta tv f):=by
 intro pins s σ H D I h;refine plainObj_wpAny_Assign_Attribute (thn (hv pins s σ H _ I h) λu s1 ⟨y,H1,I1,ry,q⟩=>thn (ha pins s1 σ H1 _ I1 q) λov s2 hz=>?_) hs;obtain⟨x,H2,I2,rx,a,C,dx,fs,ex,ea,c,n,l,q2⟩:=hz;subst ex;obtain rfl:ov=P7 a:=rx;exact rF I2 ea c n l ry λs3 I3=>⟨σ,_,I3,q2⟩
variable{ir:Pos}
theorem Co{o:Expr}{f:Str}{op:Operator}{rd:V->V->Hp->VK->Prop}(ha:PE X o ta)(hv:PE X value tv)(xr:L3 X op rd):PS X (.AugAssign (.Attribute o f ir) op value pos) (Gc X.K ta tv rd f):=by
 intro pins s σ H D I h;refine wpAny_AugAssign_AttributeAny (thn (ha pins s σ H _ I h) λov s1 hz=>?_);obtain⟨x,H1,I1,rx,a,C,dx,fs,v,ex,ea,c,n,l,q⟩:=hz;subst ex;obtain rfl:ov=P7 a:=rx;refine rE I1 ea c n l λu s2 I2 ru=>thn (hv pins s2 σ H1 _ I2 q) λw3 s3 ⟨y,H2,I3,ry,q3⟩=>thn (xr pins s3 σ H2 v y u w3 _ I3 ru ry q3) λw4 s4 hz=>?_;obtain⟨z,H3,I4,rz,ui,j3,OE,l',q4⟩:=hz;exact rF I4 OE c n l' rz λs5 I5=>⟨σ,_,I5,q4⟩
def Nz:V->V->Hp->VK->Prop:=λx y H Q=>∃i j,x=.int i/\y=.int j/\Q (.int (i+j)) H
theorem IZ:L3 X .Add Nz:=by
 rintro pins s σ H x y u v Q I rx ry ⟨i,j,rfl,rfl,q⟩;obtain⟨t,rfl⟩:=(show ∃t,u=Value.int i t from rx)
 obtain⟨t',rfl⟩:=(show ∃t',v=Value.int j t' from ry)
 exact PyProof.Rows.iadd_int ⟨.int (i+j),H,I.tok _,⟨_,rfl⟩,q⟩
inductive oB(K:Pi)(H:Hp):V->Value->Prop where
 |non:oB K H .non (.type "NoneType")
 |bl (x:Bool):oB K H (.bl x) (.type "bool")
 |int (i:Int):oB K H (.int i) (.type "int")
 |str (x:Str):oB K H (.str x) (.type "str")
 |flt (x:UInt64):oB K H (.flt x) (.type "float")
 |lst {a:Addr} {xs:List V} (e:H a=some (.lst xs)):oB K H (.ref a) (.type "list")
 |frz {a:Addr} {o:Obj} {xs:List V} (e:H a=some (.frz o (.lst xs))):oB K H (.ref a) (.type "list")
 |tup {a:Addr} {xs:List V} (e:H a=some (.tup xs)):oB K H (.ref a) (.type "tuple")
 |dK {a:Addr} {kvs:List (Key×V)} (e:H a=some (.dK kvs)):oB K H (.ref a) (.type "dict")
 |dT {a:Addr} {kvs:List (List Key×V)} (e:H a=some (.dT kvs)):oB K H (.ref a) (.type "dict")
 | ins {a C dx:Addr} {fs:List (Str×V)} (e:H a=some (.ins C dx fs)) (cl:Cls K C) (ha:Qo K (.ref C) "__class__" = some (some (.builtin "object.__class__")))
   (hn:PySem.W.specialIn K (.builtin "object.__class__") "__get__" = some (some (.builtin "getset_descriptor.__get__"))) (htk:PySem.W.takesIn K (.builtin "object.__class__")=some true)
   (hm:PySem.W.mroIn K C (.type "object")=some true):oB K H (.ref a) (.ref C)
theorem Cp{c:Value}{x:V}{t:Value}(I:Inv X pins σ H s)(rx:RelV x u)(ty:oB X.K H x t)(e:PySem.W.kitOne X.K t c=some b)(h:∀tk,Q (.bool b) { s with toks:=tk }):
  wpAny (model X.prog X.w) A (call (.builtin "isinstance") [u,c]) Q E s:=by
 cases ty with
 |non=>cases(show u=PU from rx);exact Qt PySem.W.kitx_none I.kIn QW e (λz=>nomatch z) h
 |bl y=>cases(show u=Value.bool y from rx);exact Qt PySem.W.kitx_bool I.kIn QW e (λz=>nomatch z) h
 |int i=>obtain⟨t,q⟩:=(show ∃t,u=Value.int i t from rx);cases q;exact Qt PySem.W.kitx_int I.kIn QW e (λz=>nomatch z) h
 |str y=>obtain⟨t,q⟩:=(show ∃t,u=Value.str y t from rx);cases q;exact Qt PySem.W.kitx_str I.kIn QW e (λz=>nomatch z) h
 |flt y=>obtain⟨t,q⟩:=(show ∃t,u=Value.float y t from rx);cases q;exact Qt PySem.W.kitx_float I.kIn QW e (λz=>nomatch z) h
 | @lst a xs ea=>
  cases(show u=P7 a from rx)
  obtain⟨_,_,n,_,h1⟩:=(show aZ X.prog X.w H s.heap a (.lst xs) from I.hok a _ ea)
  exact Qt PySem.W.kitx_list I.kIn ⟨_,h1,rfl⟩ e (λz=>nomatch z) h
 | @frz a ob xs ea=>
  cases(show u=P7 a from rx)
  obtain⟨_,_,_,n,_,h1⟩:=(show aZ X.prog X.w H s.heap a (.frz ob (.lst xs)) from I.hok a _ ea)
  exact Qt PySem.W.kitx_list I.kIn ⟨_,h1,rfl⟩ e (λz=>nomatch z) h
 | @tup a xs ea=>
  cases(show u=P7 a from rx)
  obtain⟨_,_,_,p⟩:=(show aZ X.prog X.w H s.heap a (.tup xs) from I.hok a _ ea)
  obtain⟨o,h1,h2,_⟩:=p;exact Qt PySem.W.kitx_tuple I.kIn ⟨o,h1,h2⟩ e (λz=>nomatch z) h
 | @dK a kvs ea=>
  cases(show u=P7 a from rx)
  obtain⟨_,_,vs,_,p⟩:=(show aZ X.prog X.w H s.heap a (.dK kvs) from I.hok a _ ea)
  obtain⟨o,es,ep,h1,h2,_⟩:=p;exact Qt PySem.W.kitx_dict I.kIn ⟨o,h1,h2.1⟩ e (λz=>nomatch z) h
 | @dT a kvs ea=>
  cases(show u=P7 a from rx)
  obtain⟨_,_,xs,_,o,es,ep,h1,h2,_⟩:=(show aZ X.prog X.w H s.heap a (.dT kvs) from I.hok a _ ea)
  exact Qt PySem.W.kitx_dict I.kIn ⟨o,h1,h2.1⟩ e (λz=>nomatch z) h
 | @ins a C dx fs ea cl ha hn htk hm=>
  cases(show u=P7 a from rx)
  obtain⟨mA,O,_⟩:=qQ I.hok ea;obtain⟨od,J,_⟩:=O.look;exact Qt (PySem.W.kitx_own (cl.get _) cl.hd ha hn htk hm) I.kIn J e (λz=>nomatch z) h
structure dM(k:Nat)(A:Around):Prop where
 hd:A.handled=none
 dp:A.depth+3*k+5<recursionLimit
 un:A.units+16*k+200<cLine
theorem dM.mono{k:Nat}(r:dM k A)(h:j<=k):dM j A:=⟨r.hd,by have:=r.dp;omega,by have:=r.un;omega⟩
theorem dM.deeper{k:Nat}(r:dM (k+1) A)(env:Env):dM k (A.deeper env):=
 ⟨r.hd,by have:=r.dp;show A.depth+1+3*k+5<_;omega,by have:=r.un;show A.units+3+16*k+200<_;omega⟩
theorem dM.in1{k:Nat}(r:dM (k+1) A):dM k A.in1:=
 ⟨r.hd,by have:=r.dp;show A.depth+3*k+5<_;omega,by have:=r.un;show A.units+1+16*k+200<_;omega⟩
theorem An{C:Addr}:(A.under (.builtin "type.__call__" ⟨.ref C::us,kw⟩)).depth=A.depth+1:=by
 first|rfl|simp[Around.under,Code.weight,Code.isCreation,Code.isGuard,Code.isCaller,Code.frames,Code.isFrame,guardIds]
theorem Ao{C:Addr}:(A.under (.builtin "type.__call__" ⟨.ref C::us,kw⟩)).units=A.units+1:=by
 first|rfl|simp[Around.under,Code.cUnits,Code.frames,Code.isFrame]
theorem dM.make{k:Nat}(r:dM (k+1) A)(C:Addr)(us:List Value)(kw:List (Str×Value)):dM k (A.under (.builtin "type.__call__" ⟨.ref C::us,kw⟩)):=
 ⟨r.hd,by have:=r.dp;rw[An];omega,by have:=r.un;rw[Ao];omega⟩
theorem dM.depth{k:Nat}(r:dM k A):A.depth<recursionLimit:=by have:=r.dp;omega
theorem dM.units{k:Nat}(r:dM k A):A.units+64<cLine:=by have:=r.un;omega
def Gd:TA:=λ_ H Q=>Q [] H
def I0(ta:TE)(tr:TA):TA:=λσ H Q=>ta σ H λx H1=>tr σ H1 λxs H2=>Q (x::xs) H2
section
variable{t:TA}
theorem Ap:PA X [] Gd:=λ_ _ _ _ H Q I h=>Calls.spliced_nil ⟨[],H,I,.nil,h⟩
theorem vW(ha:PE X e te)(hr:PA X es t)(hs:PJ (e::es) X.env=(false,eval e X.env)::PJ es X.env:=by rfl):PA X (e::es) (I0 te t):=by
 intro pos pins s σ H Q I h;rw[hs]
 show wpAny _ _ (spliced ((false,eval e X.env)::backTo pos (PJ es X.env))) _ _ s
 refine Calls.spliced_cons (thn (ha pins s σ H _ I h) λu s1 hz=>?_);obtain⟨x,H1,I1,r1,q1⟩:=hz;exact thn (hr pos pins s1 σ H1 _ I1 q1) λus s2 ⟨xs,H2,I2,r2,q2⟩=>⟨x::xs,H2,I2,.cons r1 r2,q2⟩
def NA(t:TA):TE:=λσ H Q=>t σ H λxs H1=>xs.length<=Pt/\∀p,H1 p=none->Q (.ref p) (upd H1 p (.tup xs))
def NB(t:TA):TE:=λσ H Q=>t σ H λxs H1=>xs.length<=Pt/\∀p,H1 p=none->Q (.ref p) (upd H1 p (.lst xs))
theorem J1{x1}(h:PA X es t):PE X (.Tuple es x1 pos) (NA t):=by
 intro pins s σ H Q I hq;refine wpAny_Tuple_spliced (thn (h pos pins s σ H _ I hq) λus s1 ⟨xs,H1,I1,r,z,q⟩=>⟨by rw[<-r.length];exact z,?_⟩);have hf:H1 s1.heap.objs.size=none:=I1.hok.fresh (Pk _);refine⟨.ref s1.heap.objs.size,upd H1 s1.heap.objs.size (.tup xs),I1.laid (t':=s1.toks) (λb u e=>Pn _ e) (Pk _) ?_,rfl,q _ hf⟩;exact⟨z,us,r,⟨_,Pr _ rfl,rfl,⟨_,rfl⟩,rfl⟩⟩
theorem J2(h:PA X es t):PE X (.List es pos) (NB t):=by
 intro pins s σ H Q I hq;refine wpAny_List_spliced (thn (h pos pins s σ H _ I hq) λus s1 ⟨xs,H1,I1,r,z,q⟩=>⟨by rw[<-r.length];exact z,?_⟩);have hf:H1 s1.heap.objs.size=none:=I1.hok.fresh (Pk _);refine⟨.ref s1.heap.objs.size,upd H1 s1.heap.objs.size (.lst xs),I1.laid (t':=s1.toks) (λb u e=>Pn _ e) (Pk _) ?_,rfl,q _ hf⟩;exact⟨z,us,0,r,Pr _ rfl⟩
end
abbrev Sp:=List V->Hp->VK->XK->Prop
abbrev CXT:=List Env->Hp->Shared->XK->Value->Shared->Prop
structure tU(P:Program)(w:World)(K:Pi)(mg:Str->Option Value)(base:Heap)(A:Around)(outer:List Env)(s:Shared)(H:Hp):Prop where
 frames:A.frames=some outer
 mod:Mod K mg base
 bs:∀b o,base.get? b=some o->s.heap.get? b=some o/\H b=none
 bsz:base.objs.size<=s.heap.objs.size
 funs:s.heap.FunFrames base outer
 frf:∀b∈frs outer,H b=none
 hok:HOk P w H s.heap
 bare:AllBare s.gens
def CE(outer:List Env)(P:Program)(w:World)(H:Hp)(s:Shared)(Q:VK)(u:Value)(s':Shared):Prop:=
 ∃v H',s'.os=s.os/\AllBare s'.gens/\Un (frs outer) [] H H' s.heap s'.heap/\HOk P w H' s'.heap/\RelV v u/\Q v H'
def CR(CX:CXT)(outer:List Env)(P:Program)(w:World)(H:Hp)(s:Shared)(Q:VK)(E:XK)(r:Result)(s':Shared):Prop:=
 match r with
 |.ok (.ret u)=>CE outer P w H s Q u s'
 |.ok _=>False
 |.error e=>CX outer H s E e s'
structure bV(P:Program)(w:World)(K:Pi)(mg:Str->Option Value)(base:Heap)(CX:CXT)(k:Nat)(f:Addr)(fd:Rc)(ps:List Str)(sp:Sp):Prop where
 len:∀vs H Q E,sp vs H Q E->vs.length=ps.length
 run:∀(A:Around)(outer:List Env)(s:Shared)(H:Hp)(args:Args)(us:List Value)(vs:List V)(Q:VK)(E:XK),dM k A->tU P w K mg base A outer s H->BindsTo s fd args (ps.zip us)->aJ vs us->sp vs H Q E->
  codeAny (model P w) A (.call (.ref f) args) (CR CX outer P w H s Q E) s
variable{CX:CXT}{fd:Rc}{mg:Str->Option Value}{ps:List Str}{sp:Sp}
theorem bV.imp{base:Heap}{k:Nat}{f:Addr}{we:Sp}(F:bV P w K mg base CX k f fd ps sp)(h:∀vs H Q E,we vs H Q E->sp vs H Q E):bV P w K mg base CX k f fd ps we:=
 ⟨λvs H Q E q=>F.len vs H Q E (h _ _ _ _ q),λA outer s H args us vs Q E hr he hb hv hs=>F.run A outer s H args us vs Q E hr he hb hv (h _ _ _ _ hs)⟩
variable{outer:List Env}
theorem tU.make{base:Heap}(e:tU P w K mg base A outer s H)(C:Addr)(us:List Value)(kw:List (Str×Value)):
  tU P w K mg base (A.under (.builtin "type.__call__" ⟨.ref C::us,kw⟩)) outer s H:=⟨by first|exact e.frames|(simpa[Around.under,Code.envs,Code.isFrame,pushEnvs] using e.frames),e.mod,e.bs,e.bsz,e.funs,e.frf,e.hok,e.bare⟩
theorem tU.in1{base:Heap}(e:tU P w K mg base A outer s H):
  tU P w K mg base A.in1 outer s H:=⟨e.frames,e.mod,e.bs,e.bsz,e.funs,e.frf,e.hok,e.bare⟩
theorem Inv.env0(I:Inv X pins σ H s):tU X.prog X.w X.K X.mg X.base X.A X.stack s H:=
 ⟨I.ok.frames,I.ok.mod,I.bs,P6 I.ok.bsz I.sz,I.stack,I.stkFree,I.hok,I.bare⟩
theorem Inv.after{Q:VK}(I:Inv X pins σ H s)(h:CE X.stack X.prog X.w H s Q u s'):EP X pins σ Q u s':=by
 obtain⟨v,H',os,bare,un,hok,r,q⟩:=h;obtain⟨hh,g,d,t,bj⟩:=s';obtain rfl:bj=s.os:=os;exact⟨v,H',I.call (h':=hh) (g':=g) (d':=d) (t':=t) (ch:=[]) un hok bare (λb z=>absurd z (by simp)),r,q⟩
def DK(sp:Sp)(cj:List V)(E:XK)(t:TA):TE:=λσ H Q=>t σ H λvs H1=>sp (vs++cj) H1 Q E
def Ia(C:Addr)(sp:Sp)(cj:List V)(E:XK)(t:TA):TE:=λσ H Q=>t σ H λvs H1=>∀x dx,H1 x=none->H1 dx=none->dx≠x->
 sp (.ref x::(vs++cj)) (upd (upd H1 dx (.own x)) x (.ins C dx [])) (λv H2=>v=.non/\Q (.ref x) H2) E
def Binds(K:Pi)(fd:Rc)(ps:List Str)(ds:List Value):Prop:=
 ∀(s:Shared)(us:List Value),K.In s.heap->(us++ds).length=ps.length->BindsTo s fd ⟨us,[]⟩ (ps.zip (us++ds))
theorem Binds.all(h:∀us:List Value,us.length=ps.length->bindArgs fd ⟨us,[]⟩=pure (ps.zip us)):Binds K fd ps []:=λs us _ hl=>by
 rw[RQ]at hl⊢;exact .of_eq (h us hl)
def kU(CX:CXT)(X:Cx)(E:XK):Prop:=∀(pins:List (Addr×Obj))(σ:St)(H:Hp)(s:Shared)(e:Value)(s':Shared),Inv X pins σ H s->CX X.stack H s E e s'->X.xe e s'
variable{cj vs:List V}
section
variable{k:Nat}{f C:Addr}{ds:List Value}{E:XK}{m:Str}{p:Pos}{o:Expr}{t:TA}
theorem Aq{Q:VK}(F:bV X.prog X.w X.K X.mg X.base CX k f fd ps sp)(hr:dM k X.A)(hb:Binds X.K fd ps ds)(hd:aJ cj ds)(hx:kU CX X E)(I:Inv X pins σ H s)(r:aJ vs us)(h:sp (vs++cj) H Q E):wpAny (model X.prog X.w) X.A (call (.ref f) us) (EP X pins σ Q) X.xe s:=by
 have r2:aJ (vs++cj) (us++ds):=r.append hd;have hl:(us++ds).length=ps.length:=by rw[<-r2.length];exact F.len _ _ _ _ h
 refine wpAny_call (codeAny_mono (F.run X.A X.stack s H ⟨us,[]⟩ (us++ds) (vs++cj) Q E hr I.env0 (hb s us I.kIn hl) r2 h) λr s' hq=>?_);cases r with
 |error e=>exact hx pins σ H s e s' I hq
 |ok fl=>
  cases fl with
  |ret u=>exact I.after hq
  |next=>exact Re hq
  |brk=>exact Re hq
  |cont=>exact Re hq
theorem Ge(F:bV X.prog X.w X.K X.mg X.base CX k f fd ps sp)(hr:dM k X.A)(hg:Gl X x)(hm:X.mg x=some (.ref f))(hk:Rh X.K (.ref f)=true)(hb:Binds X.K fd ps ds)(hd:aJ cj ds)(hx:kU CX X E)
  (ha:PA X (e::es) t) (bq:(x == ("__debug__" : Str))=false:=by decide) (he:PJ (e::es) X.env=(false,eval e X.env)::PJ es X.env:=by rfl) (bw:(backTo pos (PJ es X.env)).any (·.1)=false:=by rfl):
  PE X (.Call (.Name x p) (e::es) [] pos) (DK sp cj E t):=by
 intro pins s σ H Q I h;refine Q4 (gY I hg hm ?_ bq);refine PySem.W.callWith_K (h₀:=X.base) I.ok.mod.kin hk (thn (ha pos pins s σ H _ I h) λus s1 ⟨vs,H1,I1,r,q⟩=>⟨I1.kIn,?_⟩) he bw;exact Aq F hr hb hd hx I1 r q
theorem DL(F:bV X.prog X.w X.K X.mg X.base CX k f fd ps sp)(hr:dM k X.A)(hg:Gl X x)(hm:X.mg x=some (.ref f))(hk:Rh X.K (.ref f)=true)(hb:Binds X.K fd ps ds)(hd:aJ cj ds)(hx:kU CX X E)
  (bq:(x == ("__debug__" : Str))=false:=by decide):PE X (.Call (.Name x p) [] [] pos) (DK sp cj E Gd):=by
 intro pins s σ H Q I h;refine Q4 (gY I hg hm ?_ bq);exact PySem.W.callWith_K0 I.kIn hk (Aq (us:=[]) F hr hb hd hx I .nil h)
structure Mk(K:Pi)(C f:Addr):Prop where
 makes:PySem.W.makesIn K C=true
 init:Qo K (.ref C) "__init__" = some (some (.ref f))
 fn:PySem.W.isFn K (.ref f)=true
 kp:Rh K (.ref C)=true
theorem yK{Q:VK}(M:Mk X.K C f)(F:bV X.prog X.w X.K X.mg X.base CX k f fd ps sp)(hr:dM (k+1) X.A)(hb:Binds X.K fd ps ds)(hd:aJ cj ds)(hx:kU CX X E)(I:Inv X pins σ H s)(r:aJ vs us)(h:∀x dx,H x=none->H dx=none->dx≠x->sp (.ref x::(vs++cj)) (upd (upd H dx (.own x)) x (.ins C dx [])) (λv H2=>v=.non/\Q (.ref x) H2) E):
  wpAny (model X.prog X.w) X.A (call (.ref C) us) (EP X pins σ Q) X.xe s:=by
 have hq:=h (s.heap.objs.size+1) s.heap.objs.size (I.hok.fresh (RK _)) (I.hok.fresh (Pk _)) (Qd (Nat.lt_succ_self _));have I2:=Inv.made (C:=C) I;have r2:aJ (V.ref (s.heap.objs.size+1)::(vs++cj)) (P7 (s.heap.objs.size+1)::(us++ds)):=.cons rfl (r.append hd);have hl:(P7 (s.heap.objs.size+1)::us++ds).length=ps.length:=by
  have e:=r2.length;rw[F.len _ _ _ _ hq]at e;exact e.symm
 refine wpAny_call (DI (f:=f) I.kIn M.makes M.init (beq_iff_eq.mp M.fn) (codeAny_mono (F.run _ X.stack _ _ ⟨P7 (s.heap.objs.size+1)::us,[]⟩ (P7 (s.heap.objs.size+1)::(us++ds)) _ _ E (hr.make C us [])
  (I2.env0.make C us []) (hb _ (P7 (s.heap.objs.size+1)::us) I2.kIn hl) r2 hq) λr s' iq=>?_))
 cases r with
 |error e=>exact hx pins σ _ _ e s' I2 iq
 |ok fl=>
  cases fl with
  |ret u=>
   obtain⟨v,H',I3,rv,ev,q3⟩:=I2.after iq;subst ev;exact⟨rv,⟨V.ref (s.heap.objs.size+1),H',I3,rfl,q3⟩⟩
  |next=>exact Re iq
  |brk=>exact Re iq
  |cont=>exact Re iq
theorem Gf(M:Mk X.K C f)(F:bV X.prog X.w X.K X.mg X.base CX k f fd ps sp)(hr:dM (k+1) X.A)(hg:Gl X x)(hm:X.mg x=some (.ref C))(hb:Binds X.K fd ps ds)(hd:aJ cj ds)(hx:kU CX X E)
  (ha:PA X (e::es) t) (bq:(x == ("__debug__" : Str))=false:=by decide) (he:PJ (e::es) X.env=(false,eval e X.env)::PJ es X.env:=by rfl) (bw:(backTo pos (PJ es X.env)).any (·.1)=false:=by rfl):
  PE X (.Call (.Name x p) (e::es) [] pos) (Ia C sp cj E t):=by
 intro pins s σ H Q I h;refine Q4 (gY I hg hm ?_ bq);refine PySem.W.callWith_K (h₀:=X.base) I.ok.mod.kin M.kp (thn (ha pos pins s σ H _ I h) λus s1 ⟨vs,H1,I1,r,q⟩=>⟨I1.kIn,?_⟩) he bw;exact yK M F hr hb hd hx I1 r q
theorem DM(M:Mk X.K C f)(F:bV X.prog X.w X.K X.mg X.base CX k f fd ps sp)(hr:dM (k+1) X.A)(hg:Gl X x)(hm:X.mg x=some (.ref C))(hb:Binds X.K fd ps ds)(hd:aJ cj ds)(hx:kU CX X E)
  (bq:(x == ("__debug__" : Str))=false:=by decide):PE X (.Call (.Name x p) [] [] pos) (Ia C sp cj E Gd):=by
 intro pins s σ H Q I h;refine Q4 (gY I hg hm ?_ bq);exact PySem.W.callWith_K0 I.kIn M.kp (yK (us:=[]) M F hr hb hd hx I .nil h)
end
structure mJ(N P:List Str)(sc:Scope):Prop where
 kind:sc.kind=.function
 co:sc.isCoroutine=false
 gen:sc.isGenerator=false
 nd:N.Nodup
 pre:N.take P.length=P
 par:∀x∈P,sc.names.lookup x=some .local\/sc.names.lookup x=some .cell
 nofree:∀y∈sc.names,y.2≠.free
theorem uH{kindOf:Str->Option Sd}{x:Str}:∀{binds:List (Str×Value)}{m:Str->Option Value},(∀v,(x,v)∉binds)->bindL kindOf binds m x=m x
 |[],_,_=>rfl
 |(n,v)::r,m,h=>by
  unfold bindL;rw[uH λw hw=>h w (Pj _ hw)];split
  ·have:x≠n:=by rintro rfl;exact h v Pm
   simp[this]
  ·rfl
theorem uI{kindOf:Str->Option Sd}{x:Str}:∀{binds:List (Str×Value)}{m:Str->Option Value},(∀v,(x,v)∉binds)->bindC kindOf binds m x=m x
 |[],_,_=>rfl
 |(n,v)::r,m,h=>by
  unfold bindC;rw[uI λw hw=>h w (Pj _ hw)];split
  ·rfl
  ·have:x≠n:=by rintro rfl;exact h v Pm
   simp[this]
theorem uJ{kindOf:Str->Option Sd}{x:Str}{v:Value}:∀{P:List Str}{vs:List Value}{i:Nat}{m:Str->Option Value},P.Nodup->P[i]?=some x->vs[i]?=some v->kindOf x=some .local->
  bindL kindOf (P.zip vs) m x=some v
 |[],_,_,_,_,h,_,_=>by simp at h
 |_::_,[],_,_,_,_,h,_=>by simp at h
 |p::P,w::vs,0,m,nd,h1,h2,hk=>by
  simp at h1 h2;subst h1;subst h2
  show bindL kindOf ((p,w)::P.zip vs) m p=_
  unfold bindL;rw[uH λv hv=>(Rw.mp nd).1 (List.of_mem_zip hv).1,if_pos hk];simp
 |p::P,w::vs,i+1,m,nd,h1,h2,hk=>by
  show bindL kindOf ((p,w)::P.zip vs) m x=_
  unfold bindL;exact uJ (i:=i) (Rw.mp nd).2 (by simpa using h1) (by simpa using h2) hk
theorem uK{kindOf:Str->Option Sd}{x:Str}{v:Value}:∀{P:List Str}{vs:List Value}{i:Nat}{m:Str->Option Value},P.Nodup->P[i]?=some x->vs[i]?=some v->kindOf x≠some .local->
  bindC kindOf (P.zip vs) m x=some v
 |[],_,_,_,_,h,_,_=>by simp at h
 |_::_,[],_,_,_,_,h,_=>by simp at h
 |p::P,w::vs,0,m,nd,h1,h2,hk=>by
  simp at h1 h2;subst h1;subst h2
  show bindC kindOf ((p,w)::P.zip vs) m p=_
  unfold bindC;rw[uI λv hv=>(Rw.mp nd).1 (List.of_mem_zip hv).1,if_neg hk];simp
 |p::P,w::vs,i+1,m,nd,h1,h2,hk=>by
  show bindC kindOf ((p,w)::P.zip vs) m x=_
  unfold bindC;exact uK (i:=i) (Rw.mp nd).2 (by simpa using h1) (by simpa using h2) hk
def start(N:List Str)(vs:List V):St:=vs.map some++R8 (N.length-vs.length) none
def tV(CX:CXT)(P:Program)(w:World)(K:Pi)(mg:Str->Option Value)(base:Heap)(N:List Str)(qual:Str)(scope:Scope)(f:Addr)(cd:Value)(A:Around)(outer:List Env)(s:Shared)(H:Hp)(E:XK):Cx where
 prog:=P
 w:=w
 K:=K
 mg:=mg
 base:=base
 A:=A.deeper (envOfC qual scope s.heap.objs.size f cd)
 N:=N
 s₀:=s
 H₀:=H
 env:=envOfC qual scope s.heap.objs.size f cd
 outer:=outer
 stack:=envOfC qual scope s.heap.objs.size f cd::outer
 ex:=[]
 calm:=true
 fn:=λ_=>true
 pn:=[]
 xe:=λe s'=>wpAny (model P w) (A.deeper (envOfC qual scope s.heap.objs.size f cd)) (leaving (envOfC qual scope s.heap.objs.size f cd) e) (λ_ da=>CX outer H s E e da) (λe' da=>CX outer H s E e' da) s'
variable{sc:Scope}
theorem yL(h:sc.names.lookup x=some .cell):∃c,(Qu n sc.names []).lookup x=some c:=by
 have q:=PySem.W.cellsFrom_some sc.names n [] (.inl h);exact Option.isSome_iff_exists.mp q
variable{cd:Value}{qual:Str}{s1:Shared}{scope:Scope}
theorem Cq{base:Heap}{f:Addr}{E:XK}(S:mJ N ps scope)(hd:A.handled=none)(e0:tU P w K mg base A outer s H)(hl:vs.length=ps.length)(r:aJ vs us)(x:InCallC s s.heap.objs.size (bindL (envOfC qual scope s.heap.objs.size f cd).kindOf (ps.zip us) λ_=>none) (Qu (s.heap.objs.size+1) scope.names []) (bindC (envOfC qual scope s.heap.objs.size f cd).kindOf (ps.zip us) λ_=>none) s1):
  Inv (tV CX P w K mg base N qual scope f cd A outer s H E) [] (start N vs) H s1:=by
 have bw:ps.length<=N.length:=by have:=congrArg List.length S.pre;rw[Q9]at this;omega
 obtain⟨h1,tk,rfl,hk⟩:=x.done;have m6:∀b:Addr,b∉(tV CX P w K mg base N qual scope f cd A outer s H E).ex:=λb z=>absurd (show b∈([]:List Addr) from z) (by simp)
 refine⟨⟨e0.mod,S.kind,rfl,rfl,Pk _,λy z c h1 h2=>?_,λy hy=>?_,λy c _ h=>?_,λ_=>hd,Around.frames_deeper e0.frames,.inr ⟨rfl,rfl⟩,λb z=>absurd z (m6 b),e0.bs,e0.bsz,λb _ _=>m6 b,λb z=>absurd z (m6 b),e0.funs,e0.frf⟩,
  rfl,e0.bare,Un.kept hk,⟨_,x.toInCall.ns,λi y v h1 h2 h3=>?_⟩,λy c h=>⟨_,x.cell y c h⟩,e0.hok.fresh (Pk _),λy c h=>?_,λp hp=>absurd (show p∈([]:List (Addr×Obj)) from hp) (by simp),e0.hok.kept hk,?_⟩
 ·exact name_of_addr x.apart (R3 h1) (R3 h2)
 ·have hy:scope.names.lookup y=some .cell\/scope.names.lookup y=some .free:=hy;rcases hy with hy|hy
  ·exact yL hy
  ·exact absurd rfl (S.nofree _ (R3 hy))
 ·exact RY (x.above y c (R3 h))
 ·have hi:i<vs.length:=by
   unfold start at h2
   by_cases hi:i<vs.length
   ·exact hi
   ·rw[QM (by simpa using hi)]at h2
    rw[List.getElem?_replicate]at h2;split at h2 <;> cases h2
  have ha:vs[i]?=some v:=by
   unfold start at h2;rw[Ql (by simpa using hi),Pu]at h2
   cases e:vs[i]? with
   |none=>rw[e]at h2;cases h2
   |some a=>rw[e]at h2;cases h2;rfl
  obtain⟨u,hu,rv⟩:=r.get ha;have hp:ps[i]?=some y:=by
   rw[<-S.pre,List.getElem?_take_of_lt (by omega)];exact h1
  have vq:ps.Nodup:=by rw[<-S.pre];exact S.nd.sublist (List.take_sublist _ _)
  refine⟨u,rv,?_⟩;rcases S.par y (PD hp) with k|k
  ·exact .inl ⟨k,uJ vq hp hu k⟩
  ·obtain⟨c,e⟩:=yL (n:=s.heap.objs.size+1) k;refine .inr ⟨.inl k,c,e,?_⟩;have q:=x.cell y c e;rw[uK vq hp hu (by show scope.names.lookup y≠_;rw[k];decide)]at q;exact q
 ·exact e0.hok.fresh (RY (x.above y c (R3 h)))
 ·unfold start
  show _=N.length
  rw[QB,Pl,List.length_replicate];omega
variable{an od:Option Addr}{cdv ct doc pm:Value}{osl:Array (Option Value)}{params:Arguments}
theorem L4{base:Heap}{k:Nat}{f:Addr}{body:List Stmt}{dV kV oc:Value}(lk:K.lookup f=some ⟨oc,od,.func (Ra name qual params body scope dV kV doc pm an cdv ct),osl⟩)(gj:SX K cdv qual=true)(S:mJ N ps scope)(len:∀vs H Q E,sp vs H Q E->vs.length=ps.length)(f9:∀(A:Around)(outer:List Env)(s:Shared)(H:Hp)(vs:List V)(Q:VK)(E:XK),dM k (A.deeper (envOfC qual scope s.heap.objs.size f cdv))->sp vs H Q E->
   ∃t,PSs (tV CX P w K mg base N qual scope f cdv A outer s H E) body t/\t { nx:=λ_ H'=>Q .non H',rt:=Q } (start N vs) H):
  bV P w K mg base CX (k+1) f (Ra name qual params body scope dV kV doc pm an cdv ct) ps sp:=by
 refine⟨len,λA outer s H args us vs Q E hr e0 hb r jl=>?_⟩;have hl:=len _ _ _ _ jl;have KX:K.In s.heap:=e0.mod.kin.keeps λb o e=>(e0.bs b o e).1;have lim:s.heap.NoLimit:=e0.mod.nolimit.keeps λb o e=>(e0.bs b o e).1;have ou:∀y∈ps.zip us,scope.names.lookup y.1=some .local\/(scope.names.lookup y.1=some .cell/\((Qu (s.heap.objs.size+1) scope.names []).lookup y.1).isSome=true):=λ⟨n,v⟩ hy=>by
  rcases S.par n (List.of_mem_zip hy).1 with q|q
  ·exact .inl q
  ·exact .inr ⟨q,PySem.W.cellsFrom_some _ _ _ (.inl q)⟩
 refine codeAny_call_function hr.depth (KX _ _ lk) rfl S.co S.gen rfl (PySem.W.codeRec_of KX gj) (hb _ _ _ _ ?_);refine wpAny_newFunctionEnv_cells S.kind ou λenv he s1 x=>?_;subst he;refine⟨lim.keeps x.toInCall.keep,codeAny_func ?_⟩;obtain⟨t,ht,hq⟩:=f9 A outer s H vs Q E (hr.deeper _) jl;have I:Inv (tV CX P w K mg base N qual scope f cdv A outer s H E) [] (start N vs) H s1:=Cq S hr.hd e0 hl r x;refine Rz (ht [] s1 (start N vs) H _ I hq) (λfl s' hs=>?_) λe s' hs=>hs;have fin:∀{σ':St}{H':Hp}{v:V}{u:Value},Inv (tV CX P w K mg base N qual scope f cdv A outer s H E) [] σ' H' s'->RelV v u->Q v H'->CE outer P w H s Q u s':=
  λ{σ' H' v u} J rv q=>⟨v,H',J.os,J.bare,J.base,J.hok,rv,q⟩
 cases fl with
 |ret u=>
  obtain⟨v,σ',H',J,rv,q⟩:=hs;exact fin J rv q
 |next=>
  obtain⟨σ',H',J,q⟩:=hs;exact fin (v:=V.non) (u:=PU) J rfl q
 |brk=>
  obtain⟨_,_,_,q⟩:=hs;exact Re q
 |cont=>
  obtain⟨_,_,_,q⟩:=hs;exact Re q
variable{T:String}
section
variable{p:Pos}{t:TA}{id:String}{r:List V->Hp->VK->Prop}
def tCB(r:List V->Hp->VK->Prop)(t:TA):TE:=λσ H Q=>t σ H λvs H1=>r vs H1 Q
theorem DN(hc:cL X (.builtin id) r)(hg:Gl X x)(hm:X.mg x=none)(hv:RB x=some (.builtin id))(ha:PA X (e::es) t)(hn:x≠"__name__" := by decide)(bq:(x == ("__debug__" : Str))=false:=by decide)
  (he:PJ (e::es) X.env=(false,eval e X.env)::PJ es X.env:=by rfl) (bw:(backTo pos (PJ es X.env)).any (·.1)=false:=by rfl):PE X (.Call (.Name x p) (e::es) [] pos) (tCB r t):=by
 intro pins s σ H Q I h;refine Q4 (kR I hg hm hv ?_ hn bq);exact PyProof.Rows.callWith_builtin1 (thn (ha pos pins s σ H _ I h) λus s1 ⟨vs,H1,I1,r1,q1⟩=>hc pins s1 σ H1 vs us Q I1 r1 q1) he bw
theorem Cr(hc:cL X (.type T) r)(hg:Gl X x)(hm:X.mg x=none)(hv:RB x=some (.type T))(ha:PA X (e::es) t)(hn:x≠"__name__" := by decide)(bq:(x == ("__debug__" : Str))=false:=by decide)
  (he:PJ (e::es) X.env=(false,eval e X.env)::PJ es X.env:=by rfl) (bw:(backTo pos (PJ es X.env)).any (·.1)=false:=by rfl):PE X (.Call (.Name x p) (e::es) [] pos) (tCB r t):=by
 intro pins s σ H Q I h;refine Q4 (kR I hg hm hv ?_ hn bq);exact Sg (thn (ha pos pins s σ H _ I h) λus s1 ⟨vs,H1,I1,r1,q1⟩=>hc pins s1 σ H1 vs us Q I1 r1 q1) he bw
end
end L2
namespace HT
open PySem PyProof.Rows
variable{A:Around}{E Q:Value->Shared->Prop}{prog:Program}{s:Shared}{vs ws:List Value}{w:World}
theorem cat_tup{t b:Addr}(ht:IsTup s.heap t vs.toArray)(hb:IsTup s.heap b ws.toArray)(hv:vs≠[])(h1:ws=[]->Q (.ref t) s)(h2:ws≠[]->Q (.ref s.heap.objs.size) { s with heap:=s.heap.push { cls:=.type "tuple",data:=.seq (vs++ws).toArray } })(hsz:vs.length+ws.length<=Pt):wpAny (model prog w) A (QD .Add (.ref t) (.ref b)) Q E s:=by
 obtain⟨⟨cls,dd,data,sl⟩,ho,hc,n,hd⟩:=id ht;obtain⟨⟨o4,ju,data2,jd⟩,gw,di,n2,hd2⟩:=id hb;simp only at hc hd di hd2;subst hc hd di hd2;have e:vs.toArray++ws.toArray=(vs++ws).toArray:=by simp
 by_cases hw:ws=[]
 ·exact concat_meets ⟨_,ho,rfl⟩ ⟨_,gw,rfl⟩ noFill_tuple_add seq_tuple_add PySem.F.slot_tuple_add PySem.F.entry_tuple_add (PySem.F.args_tuple_add_2 _ _)
   (tuple_addW1 t b vs.toArray ws.toArray n n2 dd ju sl jd (by simpa using hv) (by simp[hw])) ⟨ho,gw,h1 hw⟩
 ·refine concat_meets ⟨_,ho,rfl⟩ ⟨_,gw,rfl⟩ noFill_tuple_add seq_tuple_add PySem.F.slot_tuple_add PySem.F.entry_tuple_add (PySem.F.args_tuple_add_2 _ _)
   (tuple_addW2 t b vs.toArray ws.toArray n n2 dd ju sl jd (by simpa using hv) (by simpa using hw) (by rw[Pq,Pq];exact hsz)) ⟨ho,gw,?_⟩
  rw[e];exact h2 hw
def sIx(n d:Nat):Option Int->Nat
 |none=>d
 |some v=>if v<0 then(v+(n:Int)).toNat else min v.toNat n
theorem J3(n d:Nat)(hd:d<=n)(o:Option Int):sIx n d o<=n:=by
 cases o with
 |none=>exact hd
 |some v=>
  show(if v<0 then(v+(n:Int)).toNat else min v.toNat n)<=n
  by_cases hv:v<0
  ·rw[if_pos hv];omega
  ·rw[if_neg hv];exact Nat.min_le_right _ _
theorem Bn(v:Int)(n d:Nat):(if v<0 then max (v+(n:Int)) 0 else min v (n:Int))=((sIx n d (some v):Nat):Int):=by
 show(if v<0 then max (v+(n:Int)) 0 else min v (n:Int))=(((if v<0 then(v+(n:Int)).toNat else min v.toNat n):Nat):Int)
 by_cases hv:v<0
 ·simp only[if_pos hv];omega
 ·simp only[if_neg hv];omega
theorem Ar(lo hi:Option Int)(n:Nat):Sw lo hi 1 (n:Int)=(((sIx n 0 lo:Nat):Int),((sIx n n hi:Nat):Int)):=by
 have h1:¬ ((1:Int)<0):=by omega
 unfold Sw;simp only[h1,if_false];refine Prod.ext ?_ ?_
 ·cases lo with
  |none=>rfl
  |some v=>exact Bn v n 0
 ·cases hi with
  |none=>rfl
  |some v=>exact Bn v n n
theorem As(i j:Nat):RL (i:Int) (j:Int) 1=j-i:=by
 unfold RL;have h1:(1:Int)>0:=by omega
 simp only[h1,if_true,Int.ediv_one];split <;> omega
variable{o:Option Int}{v:Value}
theorem rG{Q:Option Int->Shared->Prop}(p:IsPart v o)(h:Q o s):wpAny (model prog w) A (Builtin.Slice.slicePartIndex v) Q E s:=by
 cases p with
 |none=>exact slicePart_none h
 |int i t=>exact slicePart_int h
variable{hi lo:Option Int}{n:Nat}{sl:Addr}{vl vu:Value}
theorem sliceApplied_gen{Q:Int×Int×Nat->Shared->Prop}(hs:s.heap.IsSliceOf sl vl vu .none)(pl:IsPart vl lo)(pu:IsPart vu hi)(h:Q (((sIx n 0 lo:Nat):Int),1,sIx n n hi-sIx n 0 lo) s):wpAny (model prog w) A (Builtin.Slice.sliceApplied (.ref sl) (pure (n:Int))) Q E s:=by
 obtain⟨os,kx,qg,jv⟩:=id hs;unfold Builtin.Slice.sliceApplied Builtin.Slice.sliceFields;refine Pf (Pf (Sh kx jv (x:=vl) rfl (Pf (Sh kx jv (x:=vu) rfl (Pf (Sh kx jv (x:=.none) rfl (Ph ?_)))))));refine Pf (slicePart_none ?_)
 show wpAny _ _ (if((1:Int) == 0)=true then _ else _) _ _ s
 rw[if_neg (by decide)];refine Pf (rG pl (Pf (rG pu (Pf (Ph ?_)))))
 show wpAny _ _ (match Sw lo hi 1 (n:Int) with|(lo,hi)=>pure (lo,(1:Int),RL lo hi 1)) _ _ s
 rw[Ar lo hi n]
 show wpAny _ _ (pure (((sIx n 0 lo:Nat):Int),(1:Int),RL ((sIx n 0 lo:Nat):Int) ((sIx n n hi:Nat):Int) 1)) _ _ s
 rw[As];exact Ph h
theorem DO(xs:Array Value)(i k:Nat):((Qb k).filterMap λ(m:Nat)=>xs[((i:Int)+(m:Int)*1).toNat]?).toArray=((xs.toList.drop i).take k).toArray:=by
 have e:(λ(m:Nat)=>xs[((i:Int)+(m:Int)*1).toNat]?)=λm=>xs[i+m]?:=by
  funext m
  have:((i:Int)+(m:Int)*1).toNat=i+m:=by omega
  rw[this]
 rw[e];have:=pick_run xs i k;rw[List.filterMap_map]at this;have e2:((λx=>xs[x]?)∘λx=>i+x)=λm=>xs[i+m]?:=rfl;rw[e2]at this;rw[this]
variable{items:Array Value}
theorem getItem_tuple_cut{t:Addr}(ht:IsTup s.heap t items)(hs:s.heap.IsSliceOf sl vl vu .none)(pl:IsPart vl lo)(pu:IsPart vu hi)(hw:¬ (sIx items.size 0 lo=0/\sIx items.size items.size hi=items.size))(h:Q (.ref s.heap.objs.size) { s with heap:=s.heap.push { cls:=.type "tuple",data:=.seq ((items.toList.drop (sIx items.size 0 lo)).take (sIx items.size items.size hi-sIx items.size 0 lo)).toArray } })(hsz:items.size<=Pt):wpAny (model prog w) A (getItem (.ref t) (.ref sl)) Q E s:=by
 have dw:sizeOk (.seq ((items.toList.drop (sIx items.size 0 lo)).take (sIx items.size items.size hi-sIx items.size 0 lo)).toArray):=by
  show((items.toList.drop (sIx items.size 0 lo)).take (sIx items.size items.size hi-sIx items.size 0 lo)).toArray.size<=Pt
  rw[Pq,Q9,SD,SL];omega
 have hj:sIx items.size items.size hi<=items.size:=J3 _ _ (Pk _) hi;obtain⟨os,kx,qg,jv⟩:=id hs;have r9:s.TypeIs (.ref sl) "slice" := ⟨os,kx,qg⟩;unfold getItem
 try with_reducible refine Rq ?_
 first|refine Pf (Ph ?_)|skip
 refine Pf (wpAny_sequenceKey ht.typeIs (by decide) ?_);refine Pf (Qr (name:=PM "__getitem__") ht.typeIs Qn
  (Qf Qn ht.typeIs entry_tuple_getitem ?_ (args_tuple_getitem _ _)))
 show wpAny _ _ (Su (.ref t) >>= _) _ _ s
 refine Pf (tupleItemsOf_ ht ?_);refine Pf (wpAny_typeOf r9 ?_);rw[if_pos (by decide)];refine Pf (sliceApplied_gen hs pl pu ?_);have l7:¬ ((((sIx items.size 0 lo:Nat):Int) == 0&&(1:Int) == 1&&(sIx items.size items.size hi-sIx items.size 0 lo) == items.size)=true):=by
  intro q;rw[PF,PF]at q;have q1:((sIx items.size 0 lo:Nat):Int)=0:=eq_of_beq q.1.1;have q2:sIx items.size items.size hi-sIx items.size 0 lo=items.size:=eq_of_beq q.2;exact hw ⟨by omega,by omega⟩
 show wpAny _ _ (if(((sIx items.size 0 lo:Nat):Int) == 0&&(1:Int) == 1&&(sIx items.size items.size hi-sIx items.size 0 lo) == items.size)=true then _ else _) _ _ s
 rw[if_neg l7,DO]
 first
  |exact Pf (m:=RR _) (PY (Ph ⟨_,rfl,Ph h⟩) dw)
  |exact Pf (m:=RR _) (PY (Pf (Ph (Ph ⟨_,rfl,Ph h⟩))) dw)
  |exact Pf (Pf (m:=RR _) (PY (Ph (Ph ⟨_,rfl,Ph h⟩)) dw))
  |exact Pf (Pf (m:=RR _) (PY (Ph ⟨_,rfl,Ph h⟩) dw))
end HT
namespace L2
open PySem PySem.Spec PyProof.Rows
abbrev TO:=St->Hp->(Option Int->Hp->Prop)->Prop
def PO(X:Cx)(e:Option Expr)(t:TO):Prop:=
 ∀(pins:List (Addr×Obj))(s:Shared)(σ:St)(H:Hp)(Q:Option Int->Hp->Prop),Inv X pins σ H s->t σ H Q->
  wpAny (model X.prog X.w) X.A (evalPart e X.env) (λu s'=>∃o H',Inv X pins σ H' s'/\IsPart u o/\Q o H') X.xe s
def Gg:TO:=λ_ H Q=>Q none H
variable{ns:List Int}
theorem intsAre_of:∀{us:List Value},aJ (ns.map V.int) us->IntsAre us ns:=by
 induction ns with
 |nil=>intro us r;rw[List.map_nil]at r;cases r;exact .nil
 |cons n ns ih=>
  intro us r;rw[Pv]at r;cases r with
  |cons r1 r2=>
   obtain⟨t,e⟩:=r1;subst e;exact .cons n t (ih r2)
variable{X:Cx}{hi lo:Option Expr}{r r':V->Option Int->Option Int->Hp->VK->Prop}{e:Expr}{p2 pos:Pos}{te:TE}{us:List Value}
section
variable{tl th:TO}
theorem Gh:PO X none Gg:=by
 intro pins s σ H Q I h;rw[evalPart_none];exact Ph ⟨none,H,I,.none,h⟩
def SlR(X:Cx)(r:V->Option Int->Option Int->Hp->VK->Prop):Prop:=
 ∀(pins:List (Addr×Obj))(s:Shared)(σ:St)(H:Hp)(x:V)(v vl vu:Value)(lo hi:Option Int)(sl:Addr)(Q:VK),Inv X pins σ H s->RelV x v->s.heap.IsSliceOf sl vl vu .none->IsPart vl lo->IsPart vu hi->r x lo hi H Q->
  ∃T id,typeLookup (.type T) "__getitem__" = pure (some (.builtin id))/\s.TypeIs v T/\wpAny (model X.prog X.w) X.A (getItem v (.ref sl)) (EP X pins σ Q) X.xe s
theorem SlR.or(h:SlR X r)(h':SlR X r'):SlR X (λx lo hi H Q=>r x lo hi H Q\/r' x lo hi H Q):=by
 intro pins s σ H x v vl vu lo hi sl Q I rx hs pl pu q;rcases q with q|q
 ·exact h pins s σ H x v vl vu lo hi sl Q I rx hs pl pu q
 ·exact h' pins s σ H x v vl vu lo hi sl Q I rx hs pl pu q
def tSl(r:V->Option Int->Option Int->Hp->VK->Prop)(te:TE)(tl th:TO):TE:=λσ H Q=>te σ H λx H1=>tl σ H1 λl H2=>th σ H2 λu H3=>r x l u H3 Q
theorem DP(hr:SlR X r)(he:PE X e te)(hl:PO X lo tl)(hu:PO X hi th):PE X (.Subscript e (.Slice lo hi none p2) pos) (tSl r te tl th):=by
 intro pins s σ H Q I h;refine Subscript_ (thn (he pins s σ H _ I h) λv s1 hz=>?_);obtain⟨x,H1,I1,r1,q1⟩:=hz;refine wpAny_Slice (thn (hl pins s1 σ H1 _ I1 q1) λvl s2 ⟨l,H2,I2,pl,q2⟩=>thn (hu pins s2 σ H2 _ I2 q2) λvu s3 hz=>?_);obtain⟨u,H3,I3,pu,q3⟩:=hz;rw[evalPart_none];refine Ph ?_;have I4:Inv X pins σ H3 { s3 with heap:=s3.heap.push { cls:=.type "slice",data:=.fields #[vl,vu,.none] } }:=I3.kept (t':=s3.toks) λb ob q=>Pn _ q;obtain⟨T,id,hT,ht,hg⟩:=hr pins { s3 with heap:=s3.heap.push { cls:=.type "slice",data:=.fields #[vl,vu,.none] } } σ H3 x v vl vu l u s3.heap.objs.size Q I4 r1 (Heap.IsSliceOf.new ..) pl pu q3
 show wpAny (model X.prog X.w) X.A (subscriptTail e (.Slice lo hi none p2) v (.ref s3.heap.objs.size)) (EP X pins σ Q) X.xe { s3 with heap:=s3.heap.push { cls:=.type "slice",data:=.fields #[vl,vu,.none] } }
 exact tail_any (ops:=[.ref s3.heap.objs.size,v]) ht hT hg (by with_unfolding_all rfl)
def yM(xs:List V)(lo hi:Option Int):List V:=(xs.drop (HT.sIx xs.length 0 lo)).take (HT.sIx xs.length xs.length hi-HT.sIx xs.length 0 lo)
theorem pU(xs:List V)(lo hi:Option Int):(yM xs lo hi).length<=xs.length:=by
 unfold yM;rw[Q9,SD];omega
def L5(K:Pi):V->Option Int->Option Int->Hp->VK->Prop:=λx lo hi H Q=>∃a xs,x=.ref a/\SqT K H a xs/\
 ¬ (HT.sIx xs.length 0 lo=0/\HT.sIx xs.length xs.length hi=xs.length)/\∀p,H p=none->Q (.ref p) (upd H p (.tup (yM xs lo hi)))
theorem J4:SlR X (L5 X.K):=by
 intro pins s σ H x v vl vu lo hi sl Q I rx hs pl pu h;obtain⟨a,xs,rfl,hx,hw,q⟩:=h;cases rx
 obtain⟨its,r,ht,hz⟩:=I.tuple hx;have hlen:its.toArray.size=xs.length:=by rw[Pq];exact r.length.symm
 refine⟨"tuple",_,Qn.lookup,ht.typeIs,?_⟩;refine HT.getItem_tuple_cut ht hs pl pu (by rw[hlen];exact hw) ?_ (by rw[hlen];exact hz);rw[hlen];refine⟨.ref s.heap.objs.size,_,I.laid (t':=s.toks) (o:=.tup (yM xs lo hi)) (λb ob q=>Pn _ q) (Pk _) ?_,rfl,q _ (I.hok.fresh (Pk _))⟩;exact⟨P6 (pU xs lo hi) hz,_,(r.drop (HT.sIx xs.length 0 lo)).take (HT.sIx xs.length xs.length hi-HT.sIx xs.length 0 lo),rB.new _ _⟩
def Ib(K:Pi):R2:=λx y H Q=>∃a b xs ys,x=.ref a/\y=.ref b/\SqT K H a xs/\SqT K H b ys/\xs≠[]/\xs.length+ys.length<=Pt/\
 (ys=[]->Q (.ref a) H)/\(ys≠[]->∀p,H p=none->Q (.ref p) (upd H p (.tup (xs++ys))))
theorem aJ.nil_iff{xs:List V}(r:aJ xs us):us=[]↔xs=[]:=by
 cases r with
 |nil=>simp
 |cons _ _=>simp
theorem Gi:OpR X (QD .Add) (Ib X.K):=by
 intro pins s σ H x y v u Q I rx ry h;obtain⟨a,b,xs,ys,rfl,rfl,ha,hb,hx,hz,q1,q2⟩:=h;cases rx
 cases ry
 obtain⟨its,r1,p1,_⟩:=I.tuple ha;obtain⟨cg,r2,p2,_⟩:=I.tuple hb;refine HT.cat_tup p1 p2 (λz=>hx (r1.nil_iff.mp z)) (λz=>⟨.ref a,H,I,rfl,q1 (r2.nil_iff.mp z)⟩) (λz=>?_) (by rw[<-r1.length,<-r2.length];exact hz);refine⟨.ref s.heap.objs.size,_,I.laid (t':=s.toks) (o:=.tup (xs++ys)) (λb ob q=>Pn _ q) (Pk _) ?_,rfl,q2 (λw=>z (r2.nil_iff.mpr w)) _ (I.hok.fresh (Pk _))⟩;exact⟨by rw[QB];exact hz,_,r1.append r2,rB.new _ _⟩
end
def ixN(n:Nat)(i:Int):Option Nat:=if 0<=i then(if i<n then some i.toNat else none) else if -(n:Int)<=i then some (i+n).toNat else none
def atI{α:Type}(xs:List α)(i:Int):Option α:=(ixN xs.length i).bind λj=>xs[j]?
variable{j n:Nat}
theorem Bo{i:Int}(h:ixN n i=some j):seqIndex? i n=some j/\j<n/\-(n:Int)<=i/\i<n:=by
 unfold ixN at h
 by_cases h0:0<=i
 ·rw[if_pos h0]at h
  by_cases h1:i<n
  ·rw[if_pos h1]at h;have e:i.toNat=j:=PP h;exact⟨by rw[seqIndex_of h0 h1,e],by omega,by omega,h1⟩
  ·rw[if_neg h1]at h;cases h
 ·rw[if_neg h0]at h
  by_cases h1:-(n:Int)<=i
  ·rw[if_pos h1]at h;have e:(i+n).toNat=j:=PP h;exact⟨by rw[seqIndex_neg (by omega) h1,e],by omega,h1,by omega⟩
  ·rw[if_neg h1]at h;cases h
theorem vX{α:Type}{xs:List α}{i:Int}{v:α}(h:atI xs i=some v):∃j,seqIndex? i xs.length=some j/\xs[j]?=some v/\j<xs.length/\-(xs.length:Int)<=i/\i<xs.length:=by
 unfold atI at h;cases e:ixN xs.length i with
 |none=>rw[e]at h;cases h
 |some j=>
  rw[e]at h;obtain⟨h1,h2,h3,h4⟩:=Bo e;exact⟨j,h1,h,h2,h3,h4⟩
def Bp(b:Expr):Prop:=∀o i,subscripted b false o i=operate [o,i] (getItem o i)
def IxR(X:Cx)(r:R2):Prop:=
 ∀(value slice:Expr)(pins:List (Addr×Obj))(s:Shared)(σ:St)(H:Hp)(x y:V)(v u:Value)(Q:VK),Inv X pins σ H s->RelV x v->RelV y u->r x y H Q->
  subscripted slice false v u=operate [v,u] (getItem v u)->wpAny (model X.prog X.w) X.A (subscriptTail value slice v u) (EP X pins σ Q) X.xe s
def MtR(X:Cx)(id:String)(r:V->List V->Hp->VK->Prop):Prop:=
 ∀(pins:List (Addr×Obj))(s:Shared)(σ:St)(H:Hp)(x:V)(xs:List V)(v:Value)(us:List Value)(Q:VK),Inv X pins σ H s->RelV x v->aJ xs us->r x xs H Q->
  wpAny (model X.prog X.w) X.A (call (.builtin id) (v::us)) (EP X pins σ Q) X.xe s
variable{ta:TE}{H:Hp}{its its':List Value}{pins:List (Addr×Obj)}{s:Shared}{σ:St}{A:Around}{u:Value}{y:V}{T:String}{af apos:Pos}{es:List Expr}{name:Str}
section
variable{a b:Expr}{tb:TE}
theorem IxR.or{r r':R2}(h:IxR X r)(h':IxR X r'):IxR X (λx y H Q=>r x y H Q\/r' x y H Q):=by
 intro value slice pins s σ H x y v u Q I rx ry q hs;rcases q with q|q
 ·exact h value slice pins s σ H x y v u Q I rx ry q hs
 ·exact h' value slice pins s σ H x y v u Q I rx ry q hs
theorem L6{r:R2}(hr:IxR X r)(ha:PE X a ta)(hb:PE X b tb)(hs:Bp b):PE X (.Subscript a b pos) (tOp r ta tb):=by
 intro pins s σ H Q I h;exact Subscript_ (IP ha hb I h λv u s2 x y H2 I2 rx ry q=>hr a b pins s2 σ H2 x y v u Q I2 rx ry q (hs _ _))
def NC(K:Pi):R2:=λx y H Q=>∃p xs i v,x=.ref p/\y=.int i/\SqL K H p xs/\atI xs i=some v/\Q v H
def ND(K:Pi):R2:=λx y H Q=>∃p xs i v,x=.ref p/\y=.int i/\SqT K H p xs/\atI xs i=some v/\Q v H
def NF:R2:=λx y H Q=>∃z i c,x=.str z/\y=.int i/\z.length<=Pt/\atI z.cps.toList i=some c/\Q (.str ⟨#[c]⟩) H
theorem Gj:IxR X (NC X.K):=by
 intro value slice pins s σ H x y v u Q I rx ry h hs;obtain⟨p,xs,i,z,rfl,rfl,hq,he,q⟩:=h;cases rx
 obtain⟨t,rfl⟩:=ry;obtain⟨its,r,pl,hz⟩:=I.list hq;obtain⟨j,h1,h2,h3,h4,h5⟩:=vX he;obtain⟨w,ew,cw⟩:=r.get h2;have hl:=r.length;have hn:=kT;have fin:EP X pins σ Q w s:=⟨z,H,I,cw,q⟩
 by_cases h0:0<=i
 ·have hj:i.toNat=j:=by
   rw[seqIndex_of h0 h5]at h1;exact PP h1
  exact item_listR pl.isList h0 (by omega) (by rw[hj];simpa using ew) fin hs
 ·have hj:(i+(its.toArray.size:Int)).toNat=j:=by
   rw[seqIndex_neg (by omega) h4]at h1;rw[Pq,<-hl];exact PP h1
  exact subscriptTail_builtinR (x:=w) pl.isList.typeIs slot_list_getitem.lookup
   (wpAny_getItem_list_neg (Q:=λr s'=>r=w/\EP X pins σ Q r s') pl.isList (by omega) (by rw[Pq] <;> omega) (by omega) (by rw[hj];simpa using ew) ⟨rfl,fin⟩) hs
theorem J5:IxR X (ND X.K):=by
 intro value slice pins s σ H x y v u Q I rx ry h hs;obtain⟨p,xs,i,z,rfl,rfl,hq,he,q⟩:=h;cases rx
 obtain⟨t,rfl⟩:=ry;obtain⟨its,r,pl,hz⟩:=I.tuple hq;obtain⟨j,h1,h2,h3,h4,h5⟩:=vX he;obtain⟨w,ew,cw⟩:=r.get h2;have hl:=r.length;have hn:=kT;have fin:EP X pins σ Q w s:=⟨z,H,I,cw,q⟩;exact subscriptTail_builtinR (x:=w) pl.typeIs slot_tuple_getitem.lookup
  (getItem_tuple (j:=j) (Q:=λr s'=>r=w/\EP X pins σ Q r s') pl (by omega) (by omega) (by rw[Pq,<-hl];exact h1) (by simpa using ew) ⟨rfl,fin⟩) hs
theorem J6:IxR X NF:=by
 intro value slice pins s σ H x y v u Q I rx ry h hs;obtain⟨z,i,c,rfl,rfl,hz,he,q⟩:=h;obtain⟨t,rfl⟩:=rx;obtain⟨t',rfl⟩:=ry;obtain⟨j,h1,h2,h3,h4,h5⟩:=vX he;have hl:z.cps.toList.length=z.length:=by simp[Str.length]
 rw[hl]at h1 h4 h5;have hn:=kT;exact tail_any (typeIs_str s z t) slot_str_getitem.lookup (getItem_str (c:=c) (by
  have e1:decide (i < -(2 ^ 63:Int))=false:=decide_eq_false (by omega);have e2:decide (i >= 2 ^ 63)=false:=decide_eq_false (by omega);rw[e1,e2,Bool.or_false]) (by rw[h1];simpa using h2) ⟨.str ⟨#[c]⟩,H,I.tok _,⟨_,rfl⟩,q⟩) hs
theorem Au(its:List Value)(n j:Nat)(u:Value):Qw (·.setIfInBounds j u) { cls:=.type "list",data:=.seq its.toArray n }={ cls:=.type "list",data:=.seq (its.set j u).toArray n }:=by
 simp[Qw]
theorem Inv.lst{pins:List (Addr×Obj)}{σ:St}{H:Hp}{s:Shared}{p:Addr}{xs:List V}(I:Inv X pins σ H s)(h:H p=some (.lst xs)):
  ∃(its:List Value)(n:Nat),aJ xs its/\s.heap.get? p=some { cls:=.type "list",data:=.seq its.toArray n }/\xs.length<=Pt:=by
 obtain⟨z,its,n,r,e⟩:=I.hok p _ h;exact⟨its,n,r,e,z⟩
theorem Inv.lstUpd{p:Addr}{xs ys:List V}{n':Nat}{f:Obj->Obj}(I:Inv X pins σ H s)(h:H p=some (.lst xs))(ho:s.heap.get? p=some { cls:=.type "list",data:=.seq its.toArray n })(hf:f { cls:=.type "list",data:=.seq its.toArray n }={ cls:=.type "list",data:=.seq its'.toArray n' })(r:aJ ys its')(hz:ys.length<=Pt)(t:Nat):
  Inv X pins σ (upd H p (.lst ys)) { s with heap:=s.heap.update p f,toks:=t }:=by
 have e:(s.heap.update p f).get? p=some { cls:=.type "list",data:=.seq its'.toArray n' }:=by
  rw[QF f ho (by rw[hf] <;> rfl),hf]
 refine I.write (x:=p) (e:=p) (by rw[h];trivial) (.inl rfl) (λb u hb q=>(Heap.get?_update_other _ _ (Ri hb)).trans q) ⟨_,e⟩ ?_;exact⟨hz,its',n',r,e⟩
def L7:V->V->V->Hp->(Hp->Prop)->Prop:=λo i v H Q=>∃p xs k j,o=.ref p/\i=.int k/\H p=some (.lst xs)/\ixN xs.length k=some j/\Q (upd H p (.lst (xs.set j v)))
theorem set_list:Nr X L7:=by
 intro pins s σ H o i v ov iv u Q I ro ri rv h;obtain⟨p,xs,k,j,rfl,rfl,hp,hj,q⟩:=h;cases ro
 obtain⟨t,rfl⟩:=ri;obtain⟨its,n,r,ho,hz⟩:=I.lst hp;obtain⟨h1,h2,h3,h4⟩:=Bo hj;have hl:=r.length;have hn:=kT;have I':Inv X pins σ (upd H p (.lst (xs.set j v))) { s with heap:=s.heap.update p (Qw (·.setIfInBounds j u)) }:=
  I.lstUpd hp ho (Au its n j u) (r.set rv j) (by rw[QG];exact hz) s.toks
 by_cases h0:0<=k
 ·have hk:k.toNat=j:=by
   rw[seqIndex_of h0 h4]at h1;exact PP h1
  exact PySem.W.ki_setAt ho h0 (by omega) (by rw[Pq,<-hl];exact h4) (by rw[hk];exact⟨_,I',q⟩)
 ·have hk:(k+(its.toArray.size:Int)).toNat=j:=by
   rw[seqIndex_neg (by omega) h3]at h1;rw[Pq,<-hl];exact PP h1
  exact PySem.W.ki_setBack ho (by omega) (by rw[Pq,<-hl];exact h3) (by omega) (by rw[hk];exact⟨_,I',q⟩)
theorem vY(lo hi:Option Int)(n:Nat):(sliceBounds lo hi none n).1=((HT.sIx n 0 lo:Nat):Int)/\(sliceBounds lo hi none n).2.1=((HT.sIx n n hi:Nat):Int)/\(sliceBounds lo hi none n).2.2=1:=by
 refine⟨?_,?_,rfl⟩
 ·cases lo with
  |none=>simp[sliceBounds,HT.sIx]
  |some i=>
   simp only[sliceBounds,HT.sIx,Option.getD_none,show(1:Int)>0 by decide,if_true]
   by_cases h:i<0
   ·simp only[h,if_true] <;> omega
   ·simp only[h,if_false] <;> omega
 ·cases hi with
  |none=>simp[sliceBounds,HT.sIx]
  |some i=>
   simp only[sliceBounds,HT.sIx,Option.getD_none,show(1:Int)>0 by decide,if_true]
   by_cases h:i<0
   ·simp only[h,if_true] <;> omega
   ·simp only[h,if_false] <;> omega
theorem tW(its:List Value)(lo hi:Option Int):slicePick its.toArray lo hi none=((its.drop (HT.sIx its.length 0 lo)).take (HT.sIx its.length its.length hi-HT.sIx its.length 0 lo)).toArray:=by
 obtain⟨h1,h2,h3⟩:=vY lo hi its.toArray.size;unfold slicePick;rw[h1,h2,h3];simp only[sliceRange_one,pick_run,Pq] <;> rfl
def L8(K:Pi):V->Option Int->Option Int->Hp->VK->Prop:=λx lo hi H Q=>∃a xs,x=.ref a/\SqL K H a xs/\∀p,H p=none->Q (.ref p) (upd H p (.lst (yM xs lo hi)))
theorem Gk:SlR X (L8 X.K):=by
 intro pins s σ H x v vl vu lo hi sl Q I rx hs pl pu h;obtain⟨a,xs,rfl,hx,q⟩:=h;cases rx
 obtain⟨its,r,ht,hz⟩:=I.list hx;have hlen:=r.length;refine⟨"list",_,slot_list_getitem.lookup,ht.isList.typeIs,?_⟩;refine wpAny_getItem_list_slice ht.isList hs pl pu .none (by simp) ?_ (by rw[Pq] <;> omega);rw[tW,<-hlen];refine⟨.ref s.heap.objs.size,_,I.laid (t':=s.toks) (o:=.lst (yM xs lo hi)) (λb ob q=>Pn _ q) (Pk _) ?_,rfl,q _ (I.hok.fresh (Pk _))⟩;exact⟨P6 (pU xs lo hi) hz,_,0,(r.drop (HT.sIx xs.length 0 lo)).take (HT.sIx xs.length xs.length hi-HT.sIx xs.length 0 lo),Pr _ rfl⟩
def pV:V->Bool
 |.non=>true
 |.bl _=>true
 |.int _=>true
 |.str _=>true
 |_=>false
def eqV:V->V->Bool
 |.non,.non=>true
 |.bl a,.bl b=>a == b
 |.bl a,.int b=>(if a then 1 else 0) == b
 |.int a,.bl b=>a == (if b then 1 else 0)
 |.int a,.int b=>a == b
 |.str a,.str b=>a == b
 |_,_=>false
theorem J7{x:V}{v:Value}(ry:RelV y u)(rx:RelV x v)(fy:pV y=true)(fx:pV x=true):SeqAt.EqAt A s u v (eqV y x):=by
 cases y with
 |non=>
  cases ry
  cases x with
  |non=>cases rx;exact SeqAt.EqAt.same _
  |bl b=>cases rx;exact SeqAt.EqAt.none_bool b
  |int b=>obtain⟨t,rfl⟩:=rx;exact SeqAt.EqAt.none_int b t
  |str b=>obtain⟨t,rfl⟩:=rx;exact SeqAt.EqAt.none_str b t
  |_=>exact absurd (show false=true from fx) Px
 |bl a=>
  cases ry
  cases x with
  |non=>cases rx;exact SeqAt.EqAt.bool_none a
  |bl b=>cases rx;exact SeqAt.EqAt.bool_bool a b
  |int b=>obtain⟨t,rfl⟩:=rx;exact SeqAt.EqAt.bool_int a b t
  |str b=>obtain⟨t,rfl⟩:=rx;exact SeqAt.EqAt.bool_str a b t
  |_=>exact absurd (show false=true from fx) Px
 |int a=>
  obtain⟨t',rfl⟩:=ry;cases x with
  |non=>cases rx;exact SeqAt.EqAt.int_none a t'
  |bl b=>cases rx;exact SeqAt.EqAt.int_bool a t' b
  |int b=>obtain⟨t,rfl⟩:=rx;exact SeqAt.EqAt.int_int a t' b t
  |str b=>obtain⟨t,rfl⟩:=rx;exact SeqAt.EqAt.int_str a t' b t
  |_=>exact absurd (show false=true from fx) Px
 |str a=>
  obtain⟨t',rfl⟩:=ry;cases x with
  |non=>cases rx;exact SeqAt.EqAt.str_none a t'
  |bl b=>cases rx;exact SeqAt.EqAt.str_bool a t' b
  |int b=>obtain⟨t,rfl⟩:=rx;exact SeqAt.EqAt.str_int a t' b t
  |str b=>obtain⟨t,rfl⟩:=rx;exact SeqAt.EqAt.str_str a t' b t
  |_=>exact absurd (show false=true from fx) Px
 |_=>exact absurd (show false=true from fy) Px
def eqU(x:V)(u:Value):Bool:=match u with
 |.none=>eqV .non x
 |.bool b=>eqV (.bl b) x
 |.int i _=>eqV (.int i) x
 |.str z _=>eqV (.str z) x
 |_=>false
theorem DQ{x:V}(r:RelV y u)(f:pV y=true):eqU x u=eqV y x:=by
 cases y with
 |non=>cases r;rfl
 |bl b=>cases r;rfl
 |int i=>obtain⟨t,rfl⟩:=r;rfl
 |str z=>obtain⟨t,rfl⟩:=r;rfl
 |_=>exact absurd (show false=true from f) Px
theorem mK{x:V}:∀{xs:List V}{us:List Value},aJ xs us->xs.all pV=true->us.any (eqU x)=xs.any λy=>eqV y x
 |_,_,.nil,_=>rfl
 |y::xs,u::us,.cons r t,f=>by
  rw[RC,PF]at f;rw[R4,R4,DQ r f.1,mK t f.2]
theorem iX{A:Around}{s:Shared}{x:V}{v:Value}(rx:RelV x v)(fx:pV x=true):∀{xs:List V}{us:List Value},aJ xs us->xs.all pV=true->∀u∈us,SeqAt.EqAt A s u v (eqU x u)
 |_,_,.nil,_=>λu hu=>by cases hu
 |y::xs,u::us,.cons r t,f=>λu' hu=>by
  rw[RC,PF]at f;rcases PC.mp hu with rfl|hu
  ·rw[DQ r f.1];exact J7 r rx f.1 fx
  ·exact iX rx fx t f.2 u' hu
def inV(x:V)(xs:List V):Bool:=xs.any λy=>eqV y x
def rIn(K:Pi)(neg:Bool):R2:=λx y H Q=>∃p xs,y=.ref p/\(SqL K H p xs\/SqT K H p xs)/\pV x=true/\xs.all pV=true/\Q (.bl (if neg then !inV x xs else inV x xs)) H
theorem Cs:OpR X (P4 .In) (rIn X.K false):=by
 intro pins s σ H x y v u Q I rx ry h;obtain⟨p,xs,rfl,hq,fx,fs,q⟩:=h;cases ry
 rcases hq with hq|hq
 ·obtain⟨its,r,pl,hz⟩:=I.list hq;refine SeqAt.in_listAt (eqU x) pl.isList (λw hw=>iX rx fx r fs w (by simpa using hw)) ⟨.bl _,H,I,rfl,?_⟩
  rw[show its.toArray.any (eqU x)=its.any (eqU x) by simp,mK r fs];exact q
 ·obtain⟨its,r,pl,hz⟩:=I.tuple hq;refine SeqAt.in_tupleAt (eqU x) pl (λw hw=>iX rx fx r fs w (by simpa using hw)) ⟨.bl _,H,I,rfl,?_⟩
  rw[show its.toArray.any (eqU x)=its.any (eqU x) by simp,mK r fs];exact q
theorem vZ:OpR X (P4 .NotIn) (rIn X.K true):=by
 intro pins s σ H x y v u Q I rx ry h;obtain⟨p,xs,rfl,hq,fx,fs,q⟩:=h;cases ry
 rcases hq with hq|hq
 ·obtain⟨its,r,pl,hz⟩:=I.list hq;refine SeqAt.notIn_listAt (eqU x) pl.isList (λw hw=>iX rx fx r fs w (by simpa using hw)) ⟨.bl _,H,I,rfl,?_⟩
  rw[show its.toArray.any (eqU x)=its.any (eqU x) by simp,mK r fs];exact q
 ·obtain⟨its,r,pl,hz⟩:=I.tuple hq;refine SeqAt.notIn_tupleAt (eqU x) pl (λw hw=>iX rx fx r fs w (by simpa using hw)) ⟨.bl _,H,I,rfl,?_⟩
  rw[show its.toArray.any (eqU x)=its.any (eqU x) by simp,mK r fs];exact q
theorem wA:cL X (.builtin "len") (λxs H Q=>∃p ys,xs=[.ref p]/\(SqL X.K H p ys\/SqT X.K H p ys)/\Q (.int ys.length) H):=by
 intro pins s σ H xs us Q I r h;obtain⟨p,ys,rfl,hq,q⟩:=h;obtain⟨u,rfl,rx⟩:=vals1 r;cases rx
 have hn:=kT;rcases hq with hq|hq
 ·obtain⟨its,r',pl,hz⟩:=I.list hq;have hlen:=r'.length;exact Calls.call_len_list pl.isList (by simp only[Pq] <;> omega) ⟨.int ys.length,H,I.tok _,⟨s.toks+1,by rw[Pq,hlen]⟩,q⟩
 ·obtain⟨its,r',pl,hz⟩:=I.tuple hq;have hlen:=r'.length;exact len_tuple pl (by simp only[Pq] <;> omega) ⟨.int ys.length,H,I.tok _,⟨s.toks+1,by rw[Pq,hlen]⟩,q⟩
theorem wB:cL X (.type "list") (λxs H Q=>∃p ys,xs=[.ref p]/\(SqL X.K H p ys\/SqT X.K H p ys)/\∀l,H l=none->Q (.ref l) (upd H l (.lst ys))):=by
 intro pins s σ H xs us Q I r h;obtain⟨p,ys,rfl,hq,q⟩:=h;obtain⟨u,rfl,rx⟩:=vals1 r;cases rx
 have fin:∀(its:List Value),aJ ys its->ys.length<=Pt->∀(h':Heap)(c':Nat),(∀b o',s.heap.get? b=some o'->h'.get? b=some o')->
   h'.get? s.heap.objs.size=some { cls:=.type "list",dict:=none,data:=.seq its.toArray c',slots:=#[] }->EP X pins σ Q (.ref s.heap.objs.size) { s with heap:=h' }:=λits r' hz h' c' kp e=>
  ⟨.ref s.heap.objs.size,_,I.laid (t':=s.toks) kp (Pk _) (show aZ X.prog X.w _ h' _ (.lst ys) from⟨hz,its,c',r',e⟩),rfl,q _ (I.hok.fresh (Pk _))⟩
 rcases hq with hq|hq
 ·obtain⟨its,r',pl,hz⟩:=I.list hq;have hlen:=r'.length;obtain⟨o,ho,hc,n,hd⟩:=pl.isList;exact call_list_seq p (.inl rfl) ho hc hd (λh' c' kp e=>fin its r' hz h' c' kp e) (by simp only[Pq] <;> omega)
 ·obtain⟨its,r',pl,hz⟩:=I.tuple hq;have hlen:=r'.length;obtain⟨o,ho,hc,n,hd⟩:=pl;exact call_list_seq p (.inr rfl) ho hc hd (λh' c' kp e=>fin its r' hz h' c' kp e) (by simp only[Pq] <;> omega)
theorem tX:cL X (.type "tuple") (λxs H Q=>∃p ys,xs=[.ref p]/\((SqL X.K H p ys/\∀l,H l=none->Q (.ref l) (upd H l (.tup ys)))\/(SqT X.K H p ys/\Q (.ref p) H))):=by
 intro pins s σ H xs us Q I r h;obtain⟨p,ys,rfl,h⟩:=h;obtain⟨u,rfl,rx⟩:=vals1 r;cases rx
 rcases h with⟨hq,q⟩|⟨hq,q⟩
 ·obtain⟨its,r',pl,hz⟩:=I.list hq;have hlen:=r'.length;refine call_tuple_list pl.isList (λh' kp=>?_) (by simp only[Pq] <;> omega);have I1:Inv X pins σ H { s with heap:=h' }:=I.kept (t':=s.toks) kp;have I2:Inv X pins σ (upd H h'.objs.size (.tup ys)) { s with heap:=h'.push { cls:=.type "tuple",data:=.seq its.toArray } }:=
   I1.laid (t':=s.toks) (λb o e=>Pn _ e) (Pk _) (show aZ X.prog X.w _ _ _ (.tup ys) from⟨hz,its,r',rB.new _ _⟩)
  exact⟨.ref h'.objs.size,_,I2,rfl,q _ (I1.hok.fresh (Pk _))⟩
 ·obtain⟨its,r',pl,hz⟩:=I.tuple hq;exact call_tuple_same pl ⟨.ref p,H,I,rfl,q⟩
def tyV(K:Pi)(T:String)(x:V)(H:Hp):Prop:=match x with
 |.str _=>T="str"
 |.int _=>T="int"
 | .ref p=>(T="list" /\ ∃ xs,SqL K H p xs)\/(T="tuple" /\ ∃ o,K.lookup p=some o/\o.cls=.type "tuple" /\ o.dict=none)\/
   (T="dict" /\ ((∃kvs,H p=some (.dK kvs))\/∃kvs,H p=some (.dT kvs)))\/(T="set" /\ ∃S n,H p=some (.set S n))
 |_=>False
theorem J8{x:V}{v:Value}(I:Inv X pins σ H s)(r:RelV x v)(ty:tyV X.K T x H):
  s.TypeIs v T/\∀a,v=.ref a->∃ob,s.heap.get? a=some ob/\ob.dict=none:=by
 cases x with
 |str z=>
  obtain⟨t,rfl⟩:=r;cases(show T="str" from ty)
  exact⟨typeIs_str s z t,λ_ e=>nomatch e⟩
 |int i=>
  obtain⟨t,rfl⟩:=r;cases(show T="int" from ty)
  exact⟨typeIs_int s i t,λ_ e=>nomatch e⟩
 |ref p=>
  cases r
  rcases ty with⟨rfl,xs,hq⟩|⟨rfl,o,hk,hc,hd⟩|⟨rfl,hk⟩|⟨rfl,S,n,hk⟩
  ·obtain⟨its,_,pl,_⟩:=I.list hq;refine⟨pl.isList.typeIs,λa e=>?_⟩;cases e
   obtain⟨o,n,e,c,hd,_⟩:=pl;exact⟨o,e,hd⟩
  ·refine⟨⟨o,I.kIn p o hk,hc⟩,λa e=>?_⟩;cases e
   exact⟨o,I.kIn _ o hk,hd⟩
  ·have z:∃o,s.heap.get? p=some o/\o.ExactDict:=by
    rcases hk with⟨kvs,hk⟩|⟨kvs,hk⟩
    ·obtain⟨_,_,_,_,o,_,_,e,ex,_⟩:=I.hok p _ hk;exact⟨o,e,ex⟩
    ·obtain⟨_,_,_,_,o,_,_,e,ex,_⟩:=I.hok p _ hk;exact⟨o,e,ex⟩
   obtain⟨o,e,ex⟩:=z;refine⟨⟨o,e,ex.1⟩,λa e2=>?_⟩;cases e2
   exact⟨o,e,ex.2.1⟩
  ·obtain⟨o,_,_,_,e,ex,_⟩:=I.hok p _ hk;refine⟨⟨o,e,ex.1⟩,λa e2=>?_⟩;cases e2
   exact⟨o,e,ex.2.1⟩
 |_=>exact Re ty
def tBM(K:Pi)(T:String)(r:V->List V->Hp->VK->Prop)(to:TE)(t:TA):TE:=λσ H Q=>to σ H λx H1=>tyV K T x H1/\t σ H1 λxs H2=>r x xs H2 Q
variable{o:Expr}{to:TE}{t:TA}{id:String}{r:V->List V->Hp->VK->Prop}
theorem L9(pa:PlainAttrs T)(slot:Slot T name id)(j5:typeOf (.builtin id)=pure (.type "method_descriptor"))(hm:MtR X id r)(ho:PE X o to)(ha:PA X (e::es) t)
  (a8:R1 o name X.env (eval o X.env)=eval o X.env:=by rfl)
  (dg:((backTo af (PJ (e::es) X.env)).all (λx=>!x.1)&&(backToKw af (keywordEach [] X.env)).all (λx=>x.1.isSome)
   && decide ((e::es).length+([]:List Keyword).length+(if([]:List Keyword).isEmpty then 0 else 1)<30))=true:=by rfl)
  (a9:(apos.endLine == af.line)=true:=by rfl) (hs:PJ (e::es) X.env=(false,eval e X.env)::PJ es X.env:=by rfl) (bz:(backTo af (PJ es X.env)).any (·.1)=false:=by rfl):
  PE X (.Call (.Attribute o name apos) (e::es) [] af) (tBM X.K T r to t):=by
 intro pins s σ H Q I h;refine wpAny_Call_method_late a8 dg a9 rfl (thn (ho pins s σ H _ I h) λv s1 hz=>?_);obtain⟨x,H1,I1,r1,ty,q1⟩:=hz;obtain⟨h1,h2⟩:=J8 I1 r1 ty;refine⟨T,id,pa,slot,j5,h1,h2,?_⟩;have hA:=ha af pins s1 σ H1 _ I1 q1;rw[hs]at hA⊢;refine Sb (by show(false || (backTo af (PJ es X.env)).any (·.1))=false;rw[bz] <;> rfl) (Calls.evalArgs_plain ?_);exact thn hA λus s2 ⟨vs,H2,I2,r2,q2⟩=>hm pins s2 σ H2 x vs v us Q I2 r1 r2 q2
end
def MtM(X:Cx)(id:String)(r:V->List V->Hp->VK->Prop):Prop:=
 ∀(pins:List (Addr×Obj))(s:Shared)(σ:St)(H:Hp)(x:V)(xs:List V)(v:Value)(us:List Value)(Q:VK),Inv X pins σ H s->RelV x v->aJ xs us->r x xs H Q->
  wpAny (model X.prog X.w) X.A (call (.builtin id) (v::us)) (EP X pins σ Q) X.xe s
theorem aJ.one:∀{x:V}{us:List Value},aJ [x] us->∃u,us=[u]/\RelV x u
 |_,_,.cons r .nil=>⟨_,rfl,r⟩
variable{t':Nat}
section
variable{l b:Addr}{xs ys zs:List V}
theorem Inv.lset{f:Array Value->Array Value}(I:Inv X pins σ H s)(hH:H l=some (.lst xs))(e:s.heap.get? l=some { cls:=.type "list",data:=.seq its.toArray n })(hf:f its.toArray=its'.toArray)(hv:aJ ys its')(hz:ys.length<=Pt):
  Inv X pins σ (upd H l (.lst ys)) { s with heap:=s.heap.update l (Qw f),toks:=t' }:=by
 have q:=PySem.IsL.update e f;rw[hf]at q;refine I.write (x:=l) (e:=l) (by rw[hH];exact trivial) (.inl rfl) (λb' u hb hu=>(Heap.get?_update_other s.heap (Qw f) (Ri hb)).trans hu) ⟨_,q⟩ ?_;exact⟨hz,its',_,hv,q⟩
theorem Inv.lnew(I:Inv X pins σ H s)(hv:aJ ys its)(hz:ys.length<=Pt):
  Inv X pins σ (upd H s.heap.objs.size (.lst ys)) { s with heap:=s.heap.push { cls:=.type "list",data:=.seq its.toArray },toks:=t' }:=
 I.laid (λ_ _ q=>Pn _ q) (Pk _) ⟨hz,its,0,hv,Pr _ rfl⟩
theorem Inv.fresh(I:Inv X pins σ H s):H s.heap.objs.size=none:=I.hok.fresh (Pk _)
theorem Inv.lstM(I:Inv X pins σ H s)(hH:H l=some (.lst xs)):xs.length<=Pt/\∃(its:List Value)(n:Nat),aJ xs its/\xs.length=its.length/\s.heap.get? l=some { cls:=.type "list",data:=.seq its.toArray n }:=by
 obtain⟨z,its,n,r,e⟩:=I.hok l _ hH;exact⟨z,its,n,r,r.length,e⟩
end
def Bq:V->List V->Hp->VK->Prop:=λx vs H Q=>∃l xs y,x=.ref l/\vs=[y]/\H l=some (.lst xs)/\xs.length<Pt/\Q .non (upd H l (.lst (xs++[y])))
theorem uL:MtM X "list.append" Bq:=by
 intro pins s σ H x vs v us Q I rx rv h;obtain⟨l,xs,y,rfl,rfl,hH,hz,q⟩:=h;cases rx
 obtain⟨u,rfl,ru⟩:=rv.one;obtain⟨z,its,n,r,hl,e⟩:=I.lstM hH;refine call_meets F.slot_list_append ⟨_,e,rfl⟩ F.entry_list_append (F.args_list_append_2 _ _) (PySem.list_append l its.toArray n u (by rw[Pq];omega)) ⟨e,?_⟩;refine⟨.non,_,I.lset (its':=its++[u]) hH e (by simp) (r.append (.cons ru .nil)) ?_,rfl,q⟩;rw[QB,List.length_singleton];omega
def L':R2:=λx y H Q=>∃l b xs zs,x=.ref l/\y=.ref b/\H l=some (.lst xs)/\H b=some (.lst zs)/\xs.length+zs.length<=Pt/\∀p,H p=none->Q (.ref p) (upd H p (.lst (xs++zs)))
theorem J9:OpR X (QD .Add) L':=by
 intro pins s σ H x y v u Q I rx ry h;obtain⟨l,b,xs,zs,rfl,rfl,hH,hB,hz,q⟩:=h;cases rx
 cases ry
 obtain⟨z,its,n,r,hl,e⟩:=I.lstM hH;obtain⟨z2,cg,n2,r2,gi,e2⟩:=I.lstM hB;refine PySem.P.add_list e e2 ?_ (by rw[Pq,Pq];omega);have ea:its.toArray++cg.toArray=(its++cg).toArray:=by simp
 rw[ea];exact⟨.ref _,_,I.lnew (t':=s.toks) (r.append r2) (by rw[QB];omega),rfl,q _ I.fresh⟩
end L2
namespace Att
open PySem PySem.W PySem.Calls PyProof.Rows
variable{P:Params}{h:Heap}
theorem qJ:∀(ns:List Int)(vs:List Value),WellAll P h vs (ns.map WData.int)->IntsAre vs ns:=by
 intro ns
 induction ns with
 |nil=>
  intro vs w;rw[List.map_nil]at w;cases w
  exact .nil
 |cons n ns ih=>
  intro vs w;rw[Pv]at w;cases w with
  |cons a b=>
   cases a
   exact .cons _ _ (ih _ b)
variable{args:List WData}{l:OpenLaw}{n:Nat}{vals:List Value}
theorem Ct(hn:l.most=some n)(il:l.row.toRowW.claim.pre args=true)(uj:WellAll P h vals args):
  ∃a vs ns,vals=[P7 a]/\args=[WData.list (ns.map WData.int)]/\h.get? a=some { cls:=.type "list",data:=.seq vs.toArray }/\IntsAre vs ns/\ns.length<=n:=by
 have hsh:WShape.hasAll [] args [.list .int]=true:=(pre_splitW il).1;have hc:l.pre.holds [] { args:=args }=true:=(pre_splitW il).2;obtain⟨d,r,rfl,h1,h2⟩:=hasAllW_cons hsh;obtain rfl:=hasAllW_nil h2;obtain⟨xs,rfl,h3⟩:=hasW_list h1;obtain⟨ns,rfl⟩:=items_int h3;have hlen:ns.length<=n:=by
  unfold OpenLaw.pre at hc;have h4:(WTm.not (.lt (.lit (.int (n:Int))) (.len (.arg 0)))).holds [] { args:=[.list (ns.map .int)] }=true:=by
   have h4:=(holds_andW hc).1;rw[hn]at h4;exact h4
  have h5:=condW_of h4 (w_not (w_lt w_lit (w_len_list (w_arg rfl))));rw[Pl]at h5;refine Nat.le_of_not_lt λq=>?_;have q':(n:Int)<((ns.length:Nat):Int):=by omega
  first
   |(rw[decide_eq_true q']at h5;exact absurd h5 (by decide))
   |(simp at h5;omega)
 cases uj with
 |cons w1 w2=>
  cases w2
  cases w1 with
  |list ho hall=>exact⟨_,_,ns,rfl,rfl,ho,qJ ns _ hall,hlen⟩
theorem Cu(l:OpenLaw)(args:List WData):l.row.toRowW.claim.post args (.bool true) args=true:=
 postW_of (r:=l.row.toRowW) (X:=(true == true))
  (show WShape.has [] (.bool true) .bool=true by first|rfl|decide|simp[WShape.has,WShape.arms,WShape.armsAll])
  (show(WTm.eq .res (.lit (.bool true))).value [] { args:=args,res:=some (.bool true),after:=args }=some (.bool (true == true)) from w_eq_bool (w_res rfl) w_lit) rfl
variable{XP:(Str->Option Value)->Heap->Prop}{YP:World->Heap->Prop}{loose:List Str}
theorem attach_call{q:Program}{d:DefRec}(hn:l.most=some n)(nc:d.params.defaults=[])(call:∀(w:World)(s₀ s₁:Shared)(mg mb:Str->Option Value)(fa:Addr)(o:Obj)(pm cd doc:Value)(a:Addr)(vs:List Value)(ns:List Int),
   Ground q loose [] XP w s₀ mg mb s₁.heap->YP w s₁.heap->
   s₁.heap.get? fa=some o->o.data=.func (docDef d.name d.params d.body d.scope pm cd doc)->s₁.heap.CodeRec cd d.name->mg d.name=some (.ref fa)->
   s₁.heap.get? a=some { cls:=.type "list",data:=.seq vs.toArray }->IntsAre vs ns->ns.length<=n->s₁.gens=#[]->
   codeAny (model l.prog w) callerA (.call (.ref fa) ⟨[.ref a],[]⟩) (λr s'=>r=.ok (.ret (.bool true))/\OldK s₁.heap s'.heap/\s'.os=s₁.os/\AllBare s'.gens) s₁):
  WalkO q loose XP YP l.row.toRowW d [] (λf vs=>PySem.call f vs):=by
 intro w s₀ s₁ mg mb G Y fa o pm cd doc dV kV ho hd gj hD hmg hg args vals as il hlay hrd uj vp;obtain rfl:dV=.none:=Dflts.none hD nc;obtain rfl:kV=.none:=Dflts.noKw hD;obtain⟨a,vs,ns,rfl,rfl,ki,hints,hlen⟩:=Ct hn il uj;refine enter_call (codeAny_mono (call w s₀ s₁ mg mb fa o pm cd doc a vs ns G Y ho (fd_plain hd) gj hmg ki hints hlen hg) λr s' hq=>?_);obtain⟨rfl,h2,h3,h4⟩:=hq;exact⟨.inl ⟨.bool true,.bool true,[],rfl,λ_=>rfl,.bool true,Cu l _,λ_=>⟨List.Pairwise.nil,λ_ hm=>(nomatch hm)⟩⟩,h2,h3,h4⟩
end Att
namespace L2
open PySem PySem.Spec PyProof.Rows
theorem uM:∀{vs:List Value}{ns:List Int},IntsAre vs ns->aJ (ns.map V.int) vs
 |_,_,.nil=>.nil
 |_,_,.cons n t h=>.cons ⟨t,rfl⟩ (uM h)
def DR(H:Hp):Prop:=∀b,H b=none\/∃o xs,H b=some (.frz o (.lst xs))
variable{CX:CXT}{K:Pi}{P:Program}{a:Addr}{fd:Rc}{mg:Str->Option Value}{ns:List Int}{sp:Sp}{s₁:Shared}{w:World}{x:Str}
theorem DS{mb:Str->Option Value}{k:Nat}{fa:Addr}{vs:List Value}(KX:K.In s₁.heap)(va:s₁.heap.Ns Qz mg)(hb:s₁.heap.Ns builtinsNs mb)(j8:∀x:Str,x≠"__name__" -> mb x=RB x)(tf:s₁.heap.NoLimit)(hg:s₁.gens=#[])(ha:s₁.heap.get? a=some { cls:=.type "list",data:=.seq vs.toArray })(hi:IntsAre vs ns)(hl:ns.length<=Pt)(hr:dM k callerA)(F:∀base:Heap,K.In base->base.Ns Qz mg->bV P w K mg base CX k fa fd [x] sp)(mn:∀(s:Shared)(u:Value),BindsTo s fd ⟨[u],[]⟩ [(x,u)])(jl:∀H:Hp,DR H->SqL K H a (ns.map V.int)->sp [.ref a] H (λv _=>v=.bl true) λ_ _ _=>False)(r6:∀H e s',CX [] H s₁ (λ_ _ _=>False) e s'->False):
  codeAny (model P w) callerA (.call (.ref fa) ⟨[.ref a],[]⟩) (λr s'=>r=.ok (.ret (.bool true))/\OldK s₁.heap s'.heap/\s'.os=s₁.os/\AllBare s'.gens) s₁:=by
 have rv:=uM hi;have tq:=hi.length
 -- from an abstract heap in which nothing but the script may be tracked
 have core:∀H:Hp,DR H->SqL K H a (ns.map V.int)->HOk P w H s₁.heap->(∀b,H b≠none->b=a)->(H a≠none->K.lookup a=none)->
   codeAny (model P w) callerA (.call (.ref fa) ⟨[.ref a],[]⟩) (λr s'=>r=.ok (.ret (.bool true))/\OldK s₁.heap s'.heap/\s'.os=s₁.os/\AllBare s'.gens) s₁:=by
  intro H hO hS hok hA hK;have d0:∀{b:Addr}{o:Obj},s₁.heap.get? b=some o->H b=none->(vU s₁.heap H).get? b=some o:=λe n=>Du e n;have m6:∀{b:Addr}{o:Obj}{es:Array QX}{ep:Nat},s₁.heap.get? b=some o->o.data=.dict es ep->H b=none:=λ{b o es ep} e d=>by
   cases q:H b with
   |none=>rfl
   |some u=>
    have e':b=a:=hA b (by rw[q];simp);subst e';rw[ha]at e;cases e;have d':Data.seq vs.toArray _=Data.dict es ep:=d;cases d'
  have qa:∀{b:Addr}{m:Str->Option Value},s₁.heap.Ns b m->(vU s₁.heap H).Ns b m:=λ{b m} ⟨o,es,ep,e,d,r⟩=>⟨o,es,ep,d0 e (m6 e d),d,r⟩;have xf:K.In (vU s₁.heap H):=λb o e=>d0 (KX b o e) (by
   cases q:H b with
   |none=>rfl
   |some u=>
    have e':b=a:=hA b (by rw[q];simp);subst e';rw[hK (by rw[q];simp)]at e;cases e)
  have hM:Mod K mg (vU s₁.heap H):=⟨xf,qa va,⟨mb,qa hb,j8⟩,let ⟨mc,h1,h2⟩:=tf;⟨mc,qa h1,h2⟩⟩;have e0:tU P w K mg (vU s₁.heap H) callerA [] s₁ H:=⟨rfl,hM,λb o e=>FY e,Nat.le_of_eq (Ce _ _),trivial,λb hb=>absurd (show b∈([]:List Addr) from hb) (by simp),hok,.of_eq hg⟩
  refine codeAny_mono ((F _ xf (qa va)).run callerA [] s₁ H ⟨[.ref a],[]⟩ [.ref a] [.ref a] _ _ hr e0 (mn s₁ (.ref a)) (.cons rfl .nil) (jl H hO hS)) λr s' h=>?_;cases r with
  |error e=>exact(r6 H e s' h).elim
  |ok fl=>
   cases fl with
   |next=>exact Re h
   |brk=>exact Re h
   |cont=>exact Re h
   |ret u=>
    obtain⟨v,H',os,bare,un,uu,r',q⟩:=h;have q':v=.bl true:=q;subst q';obtain rfl:u=Value.bool true:=r';refine⟨rfl,OldK.of_keep λb o e=>?_,os,bare⟩;cases q:H b with
    |none=>exact un.keep b o e q (by intro z;exact absurd (show b∈([]:List Addr) from z) (by simp)) (by simp)
    |some u=>
     rcases hO b with z|⟨ob,xs,z⟩
     ·rw[q]at z;cases z
     ·have z2:=un.frzs b ob _ z;obtain⟨e1,_⟩:=hok b _ z;obtain⟨e2,_⟩:=uu b _ z2;rw[e]at e1;cases e1;exact e2
 cases hk:K.lookup a with
 |some o=>
  -- the script is one of the module's own objects
  have e:=KX a o hk;rw[ha]at e;cases e
  refine core (λ_=>none) (λ_=>.inl rfl) (.inr ⟨_,vs.toArray,_,hk,rfl,rfl,rfl,by rw[Pq,tq];exact hl,by simpa using rv⟩) (λb u z=>by have z':(none:Option HO)=some u:=z;cases z') (λb z=>absurd rfl z) λz=>absurd rfl z
 |none=>
  refine core (λb=>if b=a then some (.frz { cls:=.type "list",data:=.seq vs.toArray } (.lst (ns.map V.int))) else none) (λb=>?_) (.inl (.inr ⟨{ cls:=.type "list",data:=.seq vs.toArray },if_pos rfl⟩)) (λb u z=>?_) (λb z=>?_) λ_=>hk
  ·by_cases hb:b=a
   ·exact .inr ⟨_,_,if_pos hb⟩
   ·exact .inl (if_neg hb)
  ·by_cases hb:b=a
   ·have z':=(if_pos hb).symm.trans z;cases z'
    subst hb;exact⟨ha,by rw[Pl];exact hl,vs,_,rv,ha⟩
   ·have z':=(if_neg hb).symm.trans z;cases z'
  ·by_cases hb:b=a
   ·exact hb
   ·exact absurd (if_neg hb) z
variable{XP:(Str->Option Value)->Heap->Prop}{YP:World->Heap->Prop}{l:PySem.W.OpenLaw}{loose:List Str}{n:Nat}
theorem walk_of{k:Nat}{q:Program}{d:DefRec}{K:Params->Pi}{CX:World->CXT}{sp:World->Sp}(hn:l.most=some n)(qk:n<=Pt)(nc:d.params.defaults=[])(hr:dM k callerA)(hY:∀(w:World)(h:Heap),YP w h->(K w.params).In h)(F:∀(w:World)(mg:Str->Option Value)(fa:Addr)(h:Heap),(K w.params).In h->h.Ns Qz mg->mg d.name=some (.ref fa)->
   ∃fd:Rc,(∀(s:Shared)(u:Value),BindsTo s fd ⟨[u],[]⟩ [(x,u)])/\
    ∀base:Heap,(K w.params).In base->base.Ns Qz mg->bV l.prog w (K w.params) mg base (CX w) k fa fd [x] (sp w))(jl:∀(w:World)(H:Hp)(a:Addr)(ns:List Int),ns.length<=n->DR H->SqL (K w.params) H a (ns.map V.int)->sp w [.ref a] H (λv _=>v=.bl true) λ_ _ _=>False)(r6:∀(w:World)(H:Hp)(s:Shared)(e:Value)(s':Shared),CX w [] H s (λ_ _ _=>False) e s'->False):
  PySem.W.WalkO q loose XP YP l.row.toRowW d [] (λf vs=>PySem.call f vs):=by
 refine Att.attach_call hn nc λw s₀ s₁ mg mb fa o pm cd doc a vs ns G Y ho hd gj hmg ki hints hlen hg=>?_;have KX:=hY w _ Y;obtain⟨fd,hb,hF⟩:=F w mg fa _ KX G.T.g hmg;exact DS KX G.T.g G.T.b G.T.builtins G.T.nolimit hg ki hints (P6 hlen qk) hr hF hb (λH hO hS=>jl w H a ns hlen hO hS) λH e s'=>r6 w H s₁ e s'
def inClass(s:Stmt)(j:Nat):Stmt:=match s with
 |.ClassDef _ _ _ body _ _ _ _ _ _ _=>body.getD j (.Pass ⟨0,0,0,0⟩)
 |_=>.Pass ⟨0,0,0,0⟩
def dN(s:Stmt):Arguments:=match s with
 |.FunctionDef _ a _ _ _ _ _ _ _ _=>a
 |_=>{ posonlyargs:=[],args:=[],vararg:=none,kwonlyargs:=[],kw_defaults:=[],kwarg:=none,defaults:=[] }
def bP(s:Stmt):List Stmt:=match s with
 |.FunctionDef _ _ b _ _ _ _ _ _ _=>b
 |_=>[]
def aM(s:Stmt):Scope:=match s with
 |.FunctionDef _ _ _ _ _ _ sc _ _ _=>sc
 |_=>{ kind:=.function,names:=[],isGenerator:=false,isCoroutine:=false }
abbrev CX0:CXT:=λ_ _ _ _ _ _=>False
abbrev E0:XK:=λ_ _ _=>False
variable{X:Cx}
theorem yN:kU CX0 X E0:=λ_ _ _ _ _ _ _ h=>h.elim
structure Fun(K:Pi)(x qual:Str)(st:Stmt)(f:Addr)(fd:Rc):Prop where
 ex:∃(oc:Value)(od:Option Addr)(kV doc pm:Value)(an:Option Addr)(cdv ct:Value)(osl:Array (Option Value)),
  fd=Ra x qual (dN st) (bP st) (aM st) .none kV doc pm an cdv ct/\K.lookup f=some ⟨oc,od,.func fd,osl⟩/\SX K cdv qual=true
 kp:Rh K (.ref f)=true
variable{N ps:List Str}{qual:Str}{st:Stmt}
theorem Fun.ok{base:Heap}{f:Addr}{k:Nat}(F:Fun K x qual st f fd)(S:mJ N ps (aM st))(len:∀vs H Q E,sp vs H Q E->vs.length=ps.length)(f9:∀(cdv:Value)(A:Around)(outer:List Env)(s:Shared)(H:Hp)(vs:List V)(Q:VK)(E:XK),dM k (A.deeper (envOfC qual (aM st) s.heap.objs.size f cdv))->sp vs H Q E->
   ∃t,PSs (tV CX0 P w K mg base N qual (aM st) f cdv A outer s H E).nox (bP st) t/\t { nx:=λ_ H'=>Q .non H',rt:=Q } (start N vs) H):bV P w K mg base CX0 (k+1) f fd ps sp:=by
 obtain⟨oc,od,kV,doc,pm,an,cdv,ct,osl,rfl,lk,gj⟩:=F.ex;refine L4 lk gj S len λA outer s H vs Q E hr jl=>?_;obtain⟨t,h,q⟩:=f9 cdv A outer s H vs Q E hr jl;exact⟨t,h.nox,q⟩
theorem Fun.binds{f:Addr}(F:Fun K x qual st f fd)(h:∀(kV doc pm:Value)(an:Option Addr)(cdv ct:Value)(us:List Value),us.length=ps.length->bindArgs (Ra x qual (dN st) (bP st) (aM st) .none kV doc pm an cdv ct) ⟨us,[]⟩=pure (ps.zip us)):Binds K fd ps []:=by
 obtain⟨oc,od,kV,doc,pm,an,cdv,ct,osl,rfl,lk,gj⟩:=F.ex;exact .all (h kV doc pm an cdv ct)
variable{an od:Option Addr}{cdv ct doc pm:Value}{osl:Array (Option Value)}
theorem Av{f:Addr}{oc:Value}{kV:Value}(l:K.lookup f=some ⟨oc,od,.func (Ra x qual (dN st) (bP st) (aM st) .none kV doc pm an cdv ct),osl⟩)(c:SX K cdv qual=true)(k:Rh K (.ref f)=true):Fun K x qual st f (Ra x qual (dN st) (bP st) (aM st) .none kV doc pm an cdv ct):=⟨⟨oc,od,kV,doc,pm,an,cdv,ct,osl,rfl,l,c⟩,k⟩
variable{A:Around}
theorem La{k:Nat}(hr:dM k A):A.units+1<cLine:=Nat.lt_of_le_of_lt (Nat.add_le_add_left (by decide:1<=64) _) hr.units
variable{B:Prop}
theorem yO{A:Prop}(h:B):if false=true then A else B:=by
 rw[if_neg Px];exact h
theorem yP{A:Prop}(h:A):if true=true then A else B:=by
 rw[if_pos rfl];exact h
def DT(H H':Hp):Prop:=∀b o,H b=some o->H' b=some o
variable{u:Value}{y:V}
section
variable{κ:Type}[DecidableEq κ]
def gI(kvs:List (κ×V))(k:κ):Option V:=(kvs.find? λkv=>decide (kv.1=k)).map (·.2)
def putK(kvs:List (κ×V))(k:κ)(v:V):List (κ×V):=
 if(kvs.any λkv=>decide (kv.1=k))=true then kvs.map (λkv=>if kv.1=k then(kv.1,v) else kv) else kvs++[(k,v)]
theorem mL{p:κ×V}{r:List (κ×V)}{k:κ}(e:p.1=k):gI (p::r) k=some p.2:=by simp[gI,QS,e]
theorem mM{p:κ×V}{r:List (κ×V)}{k:κ}(e:¬ p.1=k):gI (p::r) k=gI r k:=by simp[gI,QS,e]
theorem rH(k:κ):∀kvs:List (κ×V),(kvs.any λkv=>decide (kv.1=k))=(gI kvs k).isSome
 |[]=>rfl
 |p::r=>by
  rw[R4]
  by_cases e:p.1=k
  ·simp only[mL e,decide_eq_true e,Bool.true_or,RD]
  ·rw[mM e,decide_eq_false e,Bool.false_or];exact rH k r
theorem iY(kvs:List (κ×V))(k:κ)(v:V):(putK kvs k v).length<=kvs.length+1:=by
 unfold putK;split
 ·rw[Pl];omega
 ·rw[QB,Qs,List.length_nil];omega
theorem iU.isSome_eq{o:Option V}{u:Option Value}(r:iU o u):o.isSome=u.isSome:=by
 cases o with
 |none=>cases u with
  |none=>rfl
  |some _=>exact(show False from r).elim
 |some _=>cases u with
  |none=>exact(show False from r).elim
  |some _=>rfl
theorem iU.getD{o:Option V}{u:Option Value}{d:V}{d':Value}(r:iU o u)(rd:RelV d d'):RelV (o.getD d) (u.getD d'):=by
 cases o with
 |none=>cases u with
  |none=>exact rd
  |some _=>exact(show False from r).elim
 |some _=>cases u with
  |none=>exact(show False from r).elim
  |some _=>exact r
theorem KV.val{kvs:List (κ×V)}{vs:List (κ×Value)}(r:KV kvs vs)(k:κ):iU (gI kvs k) (valueAt vs k):=by
 unfold KV at r
 induction r with
 |nil=>exact QW
 | @cons p q ps qs h t ih=>
  obtain⟨h1,h2⟩:=h
  by_cases e:p.1=k
  ·have e':q.1=k:=h1.symm.trans e;have b:valueAt (q::qs) k=some q.2:=by simp[valueAt,QS,e']
   rw[mL e,b];exact h2
  ·have e':¬ q.1=k:=λz=>e (h1.trans z);have b:valueAt (q::qs) k=valueAt qs k:=by simp[valueAt,QS,e']
   rw[mM e,b];exact ih
theorem KV.any{kvs:List (κ×V)}{vs:List (κ×Value)}(r:KV kvs vs)(k:κ):(kvs.any λkv=>decide (kv.1=k))=vs.any λkv=>decide (kv.1=k):=by
 unfold KV at r
 induction r with
 |nil=>rfl
 |cons h t ih=>rw[R4,R4,ih,h.1]
theorem KV.repl{kvs:List (κ×V)}{vs:List (κ×Value)}(r:KV kvs vs)(k:κ)(ry:RelV y u):
  KV (kvs.map λkv=>if kv.1=k then(kv.1,y) else kv) (vs.map λkv=>if kv.1=k then(kv.1,u) else kv):=by
 unfold KV at r⊢
 induction r with
 |nil=>exact .nil
 | @cons p q ps qs h t ih=>
  rw[Pv,Pv];refine .cons ?_ ih;obtain⟨h1,h2⟩:=h
  by_cases e:p.1=k
  ·rw[if_pos e,if_pos (h1.symm.trans e)];exact⟨h1,ry⟩
  ·rw[if_neg e,if_neg (λz=>e (h1.trans z))];exact⟨h1,h2⟩
theorem KV.put{kvs:List (κ×V)}{vs:List (κ×Value)}(r:KV kvs vs)(k:κ)(ry:RelV y u):KV (putK kvs k y) (stored vs k u):=by
 unfold putK stored;rw[r.any k]
 by_cases e:(vs.any λkv=>decide (kv.1=k))=true
 ·rw[if_pos e,if_pos e];exact r.repl k ry
 ·rw[if_neg e,if_neg e];exact Paired.snoc r ⟨rfl,ry⟩
theorem KV.length{kvs:List (κ×V)}{vs:List (κ×Value)}(r:KV kvs vs):kvs.length=vs.length:=Qi r
end
theorem mN{k:Key}(r:RelV (kV k) u):(aP P w).is k u=true:=by
 cases k with
 |inl i=>obtain⟨t,e⟩:=(show ∃t,u=Value.int i t from r);subst e;exact yE P w i t
 |inr x=>obtain⟨t,e⟩:=(show ∃t,u=Value.str x t from r);subst e;exact pR P w x t
theorem uN{P:Program}{w:World}:∀{ks:List Key}{us:List Value},aJ (ks.map kV) us->ItemsAre (aP P w) ks us
 |[],_,r=>by rw[List.map_nil]at r;cases r;exact .nil
 |k::ks,_,r=>by
  rw[Pv]at r;cases r with
  |cons h t=>exact .cons (mN h) (uN t)
abbrev KT(H:Hp):List (List Key×V)->List (List Key×Addr×Value)->Prop:=Paired λp q=>p.1=q.1/\H q.2.1=some (.tup (p.1.map kV))/\RelV p.2 q.2.2
variable{H:Hp}
theorem KT.val{kvs:List (List Key×V)}{xs:List (List Key×Addr×Value)}(r:KT H kvs xs)(k:List Key):iU (gI kvs k) ((atKey xs k).map (·.2)):=by
 induction r with
 |nil=>exact QW
 | @cons p q ps qs h t ih=>
  obtain⟨h1,_,h2⟩:=h
  by_cases e:p.1=k
  ·have e':q.1=k:=h1.symm.trans e;have b:atKey (q::qs) k=some q.2:=by simp[atKey,QS,e']
   rw[mL e,b];exact h2
  ·have e':¬ q.1=k:=λz=>e (h1.trans z);have b:atKey (q::qs) k=atKey qs k:=by simp[atKey,QS,e']
   rw[mM e,b];exact ih
theorem KT.repl{kvs:List (List Key×V)}{xs:List (List Key×Addr×Value)}(r:KT H kvs xs)(k:List Key)(ry:RelV y u):
  KT H (kvs.map λkv=>if kv.1=k then(kv.1,y) else kv) (xs.map (putAt k u)):=by
 induction r with
 |nil=>exact .nil
 | @cons p q ps qs h t ih=>
  rw[Pv,Pv];refine .cons ?_ ih;obtain⟨h1,h2,h3⟩:=h;unfold putAt
  by_cases e:p.1=k
  ·rw[if_pos e,if_pos (h1.symm.trans e)];exact⟨h1,h2,ry⟩
  ·rw[if_neg e,if_neg (λz=>e (h1.trans z))];exact⟨h1,h2,h3⟩
theorem KT.put{kvs:List (List Key×V)}{xs:List (List Key×Addr×Value)}(r:KT H kvs xs)(k:List Key){b:Addr}(hb:H b=some (.tup (k.map kV)))(ry:RelV y u):
  KT H (putK kvs k y) (storedH xs k b u):=by
 have e:(kvs.any λkv=>decide (kv.1=k))=(atKey xs k).isSome:=by
  rw[rH,(r.val k).isSome_eq,QY]
 unfold putK storedH;rw[e]
 by_cases q:(atKey xs k).isSome=true
 ·rw[if_pos q,if_pos q];exact r.repl k ry
 ·rw[if_neg q,if_neg q];exact Paired.snoc r ⟨rfl,hb,ry⟩
variable{H':Hp}
theorem KT.keeps{kvs:List (List Key×V)}{xs:List (List Key×Addr×Value)}(r:KT H kvs xs)(ht:∀b ys,H b=some (.tup ys)->H' b=some (.tup ys)):KT H' kvs xs:=
 Paired.mapP r λ_ _ z=>⟨z.1,ht _ _ z.2.1,z.2.2⟩
theorem Ic{h:Heap}{u:HO}(ok:HOk P w H h)(e:Rd H a u):aZ P w H h a u:=e.ok ok
theorem pW{h:Heap}{kvs:List (Key×V)}(ok:HOk P w H h)(e:Rd H a (.dK kvs)):kvs.length<=Pt/\(a == Qm)=false/\∃vs,KV kvs vs/\h.DictOf (aP P w) a vs:=
 show aZ P w H h a (.dK kvs) from Ic ok e
theorem uO{h:Heap}{kvs:List (Key×V)}(ok:HOk P w H h)(e:H a=some (.dK kvs)):kvs.length<=Pt/\(a == Qm)=false/\∃vs,KV kvs vs/\h.DictOf (aP P w) a vs:=pW ok (.inl e)
theorem kW{h:Heap}{ks:List Key}(ok:HOk P w H h)(e:H a=some (.tup (ks.map kV))):(tupleKind (aP P w)).is h ks a:=by
 obtain⟨_,its,r,o,h1,h2,⟨n,h3⟩,_⟩:=(show aZ P w H h a (.tup (ks.map kV)) from ok a _ e)
 exact⟨o,its.toArray,n,h1,h2,h3,by simpa using uN r⟩
theorem rJ{h:Heap}{kvs:List (List Key×V)}(ok:HOk P w H h)(e:Rd H a (.dT kvs)):kvs.length<=Pt/\(a == Qm)=false/\
  ∃xs,KT H kvs xs/\h.DictOfH (tupleKind (aP P w)) a xs:=by
 obtain⟨z,y,xs,r,o,es,ep,h1,h2,h3,h4,h5⟩:=(show aZ P w H h a (.dT kvs) from Ic ok e)
 refine⟨z,y,xs,r,o,es,ep,h1,h2,h3,h4,λx hx=>?_,h5⟩;have all:∀{l:List (List Key×V)}{m:List (List Key×Addr×Value)},KT H l m->∀x∈m,(tupleKind (aP P w)).is h x.1 x.2.1:=by
  intro l m q
  induction q with
  |nil=>intro x hx;exact nomatch hx
  | @cons p q ps qs hq t ih=>
   intro x hx;rcases PC.mp hx with e|hx
   ·subst e;exact kW ok (by rw[<-hq.1];exact hq.2.1)
   ·exact ih x hx
 exact all r x hx
theorem Lb{h:Heap}{kvs:List (List Key×V)}(ok:HOk P w H h)(e:H a=some (.dT kvs)):kvs.length<=Pt/\(a == Qm)=false/\
  ∃xs,KT H kvs xs/\h.DictOfH (tupleKind (aP P w)) a xs:=rJ ok (.inl e)
def kX(H:Hp)(a:Addr)(y:V)(r:Option V):Prop:=
 (∃kvs k,Rd H a (.dK kvs)/\y=kV k/\r=gI kvs k)\/∃kvs k b,Rd H a (.dT kvs)/\y=.ref b/\H b=some (.tup (k.map kV))/\r=gI kvs k
def J'(H:Hp)(a:Addr)(y v:V)(H':Hp):Prop:=
 (∃kvs k,H a=some (.dK kvs)/\y=kV k/\kvs.length<Pt/\H'=upd H a (.dK (putK kvs k v)))\/
 ∃kvs k b,H a=some (.dT kvs)/\y=.ref b/\H b=some (.tup (k.map kV))/\kvs.length<Pt/\H'=upd H a (.dT (putK kvs k v))
theorem kX.k{H:Hp}{a:Addr}{kvs:List (Key×V)}{k:Key}(e:H a=some (.dK kvs)):kX H a (kV k) (gI kvs k):=.inl ⟨kvs,k,.inl e,rfl,rfl⟩
theorem J'.k{H:Hp}{a:Addr}{kvs:List (Key×V)}{k:Key}{v:V}(e:H a=some (.dK kvs))(hl:kvs.length<Pt):J' H a (kV k) v (upd H a (.dK (putK kvs k v))):=.inl ⟨kvs,k,e,rfl,hl,rfl⟩
variable{pins:List (Addr×Obj)}{s:Shared}{σ:St}
theorem Inv.big(I:Inv X pins σ H s):Qm<s.heap.objs.size:=by
 have h:Qz<s.heap.objs.size:=(I.mod.glob.keeps I.bk).lt;exact Nat.lt_trans (by decide) h
variable{E Q:Value->Shared->Prop}{v:V}
theorem Cv(hu:A.units+1<cLine)(I:Inv X pins σ H s)(g:kX H a y (some v))(ry:RelV y u)(h:∀w' s',Inv X pins σ H s'->RelV v w'->Q w' s'):
  wpAny (model X.prog X.w) A (getItem (.ref a) u) Q E s:=by
 rcases g with⟨kvs,k,e,ey,l⟩|⟨kvs,k,b,e,ey,eb,l⟩
 ·subst ey;obtain⟨z,hd,vs,rel,dd⟩:=pW I.hok e;obtain⟨w',hw,cw⟩:=iU.some_of (v:=v) (o:=valueAt vs k) (by rw[l];exact rel.val k);exact wpAny_getItem_of (mN ry) dd.mapOf hw (h w' _ (I.tok _) cw)
 ·subst ey;cases(show u=P7 b from ry)
  obtain⟨z,hd,xs,rel,dd⟩:=rJ I.hok e;obtain⟨w',hw,cw⟩:=iU.some_of (v:=v) (o:=(atKey xs k).map (·.2)) (by rw[l];exact rel.val k);obtain⟨p,hp,OQ⟩:=PB.mp hw;refine wpAny_getItem_heap (RF hu) (kW I.hok eb) dd hp ?_;rw[OQ];exact h w' _ (I.tok _) cw
theorem NG{o:Option V}(hu:A.units+1<cLine)(I:Inv X pins σ H s)(g:kX H a y o)(ry:RelV y u)(h:∀s',Inv X pins σ H s'->Q (.bool o.isSome) s'):
  wpAny (model X.prog X.w) A (P4 .In u (.ref a)) Q E s:=by
 rcases g with⟨kvs,k,e,ey,l⟩|⟨kvs,k,b,e,ey,eb,l⟩
 ·subst ey;obtain⟨z,hd,vs,rel,dd⟩:=pW I.hok e;refine wpAny_in_of (mN ry) hd dd.mapOf ?_;rw[<-(rel.val k).isSome_eq,<-l];exact h _ (I.tok _)
 ·subst ey;cases(show u=P7 b from ry)
  obtain⟨z,hd,xs,rel,dd⟩:=rJ I.hok e;refine wpAny_in_heap (RF hu) (kW I.hok eb) hd dd ?_;have q:=(rel.val k).isSome_eq;rw[QY]at q;rw[<-q,<-l];exact h _ (I.tok _)
theorem Gm{o:Option V}(hu:A.units+1<cLine)(I:Inv X pins σ H s)(g:kX H a y o)(ry:RelV y u)(h:∀s',Inv X pins σ H s'->Q (.bool (!o.isSome)) s'):
  wpAny (model X.prog X.w) A (P4 .NotIn u (.ref a)) Q E s:=by
 rcases g with⟨kvs,k,e,ey,l⟩|⟨kvs,k,b,e,ey,eb,l⟩
 ·subst ey;obtain⟨z,hd,vs,rel,dd⟩:=pW I.hok e;refine wpAny_notIn_of (mN ry) hd dd.mapOf ?_;rw[<-(rel.val k).isSome_eq,<-l];exact h _ (I.tok _)
 ·subst ey;cases(show u=P7 b from ry)
  obtain⟨z,hd,xs,rel,dd⟩:=rJ I.hok e;refine wpAny_notIn_heap (RF hu) (kW I.hok eb) hd dd ?_;have q:=(rel.val k).isSome_eq;rw[QY]at q;rw[<-q,<-l];exact h _ (I.tok _)
variable{h':Heap}{t':Nat}
theorem jY{ob:HO}(I:Inv X pins σ H s)(mu:Mut (H a))(hs:QN a s.heap h')(he:∃q,h'.get? a=some q)(new:aZ X.prog X.w (upd H a ob) h' a ob):
  Inv X pins σ (upd H a ob) { s with heap:=h',toks:=t' }:=
 I.write (x:=a) (e:=a) mu (.inl rfl) (λb q hb z=>(hs.2 b hb).trans z) he new
theorem DU{kvs:List (Key×V)}{vs:List (Key×Value)}(z:kvs.length<=Pt)(hd:(a == Qm)=false)(rel:KV kvs vs)(dd:h'.DictOf (aP P w) a vs):
  aZ P w H' h' a (.dK kvs):=⟨z,hd,vs,rel,dd⟩
theorem Cw{r:Value}{Q:Unit->Shared->Prop}(hu:A.units+1<cLine)(I:Inv X pins σ H s)(g:J' H a y v H')(ry:RelV y u)(rv:RelV v r)(h:∀s',Inv X pins σ H' s'->Q () s'):
  wpAny (model X.prog X.w) A (setItem (.ref a) u r) Q E s:=by
 rcases g with⟨kvs,k,e,ey,l,eH⟩|⟨kvs,k,b,e,ey,eb,l,eH⟩
 ·subst ey eH;obtain⟨z,hd,vs,rel,dd⟩:=uO I.hok e;have hz:vs.length<=Pt:=by rw[<-rel.length];exact z
  have hl:(putK kvs k v).length<=Pt:=by have:=iY kvs k v;omega
  refine wpAny_setItem_pairs (hsz:=hz) (mN ry) dd λh' e8 hs=>h _ ?_;have he:∃q,h'.get? a=some q:=let ⟨q,_,_,hq,_⟩:=e8;⟨q,hq⟩;exact jY I (by rw[e];exact QW) hs he (DU hl hd (rel.put k rv) e8)
 ·subst ey eH;cases(show u=P7 b from ry)
  obtain⟨z,hd,xs,rel,dd⟩:=Lb I.hok e;have hz:xs.length<=Pt:=by rw[<-Qi rel];exact z
  have hl:(putK kvs k v).length<=Pt:=by have:=iY kvs k v;omega
  refine wpAny_setItem_heap (hsz:=hz) (RF hu) (kW I.hok eb) dd λh' e8 hs=>h _ ?_;obtain⟨q,es,ep,hq,h2,h3,h4,_,h5⟩:=e8;refine jY I (by rw[e];exact QW) hs ⟨q,hq⟩ ⟨hl,hd,_,(rel.put k eb rv).keeps λc ys ec=>?_,q,es,ep,hq,h2,h3,h4,h5⟩;rw[aE (KH ec e (λz=>nomatch z))];exact ec
theorem Lc{kvs:List (Key×V)}(I:Inv X pins σ H s)(e:Rd H a (.dK kvs))(h:∀t s',Inv X pins σ H s'->Q (.int kvs.length t) s'):wpAny (model X.prog X.w) A (call (.builtin "len") [.ref a]) Q E s:=by
 obtain⟨z,hd,vs,rel,dd⟩:=pW I.hok e;refine call_len_dict hd dd (by rw[<-rel.length];rw[QE]at z;omega) ?_;rw[<-rel.length];exact h _ _ (I.tok _)
theorem yQ{o:Option V}(I:Inv X pins σ H s)(g:kX H a y o):s.TypeIs (.ref a) "dict" := by
 rcases g with⟨kvs,k,e,_,_⟩|⟨kvs,k,b,e,_,_,_⟩
 ·obtain⟨_,_,vs,_,dd⟩:=pW I.hok e;exact dd.typeIs
 ·obtain⟨_,_,xs,_,dd⟩:=rJ I.hok e;exact dd.typeIs
theorem DV(h:Heap)(hb:Qm<h.objs.size):aZ P w H (h.push { cls:=.type "dict",data:=.dict #[] }) h.objs.size (.dK []):=
 ⟨P8 _,beq_eq_false_iff_ne.mpr (Ri (Qd hb)),[],.nil,Heap.DictOf.new h⟩
def Ja:TE:=λ_ H Q=>∀p,H p=none->Q (.ref p) (upd H p (.dK []))
variable{pos:Pos}
theorem DW:PE X (.Dict [] [] pos) Ja:=λpins s σ H Q I h=>
 wpAny_Dict_empty ⟨.ref s.heap.objs.size,_,I.laid (a:=s.heap.objs.size) (o:=.dK []) (t':=s.toks) (λ_ _ q=>Pn _ q) (Pk _) (DV s.heap I.big),rfl,h _ (I.hok.fresh (Pk _))⟩
theorem Jb{o:Option V}(hu:A.units+1<cLine)(I:Inv X pins σ H s)(g:kX H a y o)(ry:RelV y u)(h:∀w' s',Inv X pins σ H s'->RelV (o.getD .non) w'->Q w' s'):
  wpAny (model X.prog X.w) A (call (.builtin "dict.get") [.ref a,u]) Q E s:=by
 rcases g with⟨kvs,k,e,ey,l⟩|⟨kvs,k,b,e,ey,eb,l⟩
 ·subst ey;obtain⟨z,hd,vs,rel,dd⟩:=pW I.hok e;refine Rb Qp dd.typeIs QR (R5 _ _) (meets_dict_get (aP X.prog X.w) a (mN ry) hd) ⟨_,dd.mapOf,h _ _ (I.tok _) ?_⟩;rw[l];exact(rel.val k).getD rfl
 ·subst ey;cases(show u=P7 b from ry)
  obtain⟨z,hd,xs,rel,dd⟩:=rJ I.hok e;refine Rb Qp dd.typeIs QR (R5 _ _) (meetsH_dict_get (tupleKind (aP X.prog X.w)) a b hd) ⟨RF hu,k,xs,kW I.hok eb,dd,h _ _ (I.tok _) ?_⟩;rw[l];exact(rel.val k).getD rfl
theorem Jc{d:V}{r:Value}{o:Option V}(hu:A.units+1<cLine)(I:Inv X pins σ H s)(g:kX H a y o)(ry:RelV y u)(rd:RelV d r)(h:∀w' s',Inv X pins σ H s'->RelV (o.getD d) w'->Q w' s'):
  wpAny (model X.prog X.w) A (call (.builtin "dict.get") [.ref a,u,r]) Q E s:=by
 rcases g with⟨kvs,k,e,ey,l⟩|⟨kvs,k,b,e,ey,eb,l⟩
 ·subst ey;obtain⟨z,hd,vs,rel,dd⟩:=pW I.hok e;refine Rb Qp dd.typeIs QR (PySem.F.args_dict_get_3 _ _ _) (meets_dict_get_default (aP X.prog X.w) a (mN ry) hd r) ⟨_,dd.mapOf,h _ _ (I.tok _) ?_⟩;rw[l];exact(rel.val k).getD rd
 ·subst ey;cases(show u=P7 b from ry)
  obtain⟨z,hd,xs,rel,dd⟩:=rJ I.hok e;refine Rb Qp dd.typeIs QR (PySem.F.args_dict_get_3 _ _ _) (meetsH_dict_get_default (tupleKind (aP X.prog X.w)) a b hd r) ⟨RF hu,k,xs,kW I.hok eb,dd,h _ _ (I.tok _) ?_⟩;rw[l];exact(rel.val k).getD rd
theorem Cy:cL X (.builtin "len") (λxs H Q=>∃a kvs,xs=[V.ref a]/\H a=some (.dK kvs)/\Q (.int kvs.length) H):=by
 intro pins s σ H xs us Q I r h;obtain⟨a,kvs,rfl,ha,q⟩:=h;obtain⟨u,rfl,ru⟩:=vals1 r;cases ru
 exact Lc I (.inl ha) λt s' I'=>⟨.int kvs.length,H,I',⟨t,rfl⟩,q⟩
variable{env:Env}{ifs:List Expr}{iter:Expr}{prog:Program}{scope:Scope}
section
variable{R:Result->Shared->Prop}
def Br(ifs:List Expr)(env:Env):Sem Bool:=forIn ifs true λc r=>if r=true then do let ok <-isTrue c env (eval c env);pure (ForInStep.yield ok) else pure (ForInStep.yield r)
theorem wC{elt target:Expr}{it acc:Value}(I:Nat->Shared->Prop)(turn:∀n s,I n s->wpAny (model prog w) A (pyNext it) (λr s₁=>match r with
   |none=>R (.ok .next) s₁
   | some v=>wpAny (model prog w) A (letOwnedTupleGo target it v) (fun _ u7=>wpAny (model prog w) A (assign target env v) (fun _ s₂=>
     wpAny (model prog w) A (Br ifs env) (λok s₃=>
      if ok=true then wpAny (model prog w) A (eval elt env) (λx s₄=>
       wpAny (model prog w) A (call (.builtin "list.append") [acc,x]) (λ_ s₅=>∃m,m<n/\I m s₅) (λ_ _=>False) s₄) (λ_ _=>False) s₃
      else ∃m,m<n/\I m s₃) (λ_ _=>False) s₂) (λ_ _=>False) u7) (λ_ _=>False) s₁) (λ_ _=>False) s)(n:Nat)(h:I n s):
  codeAny (model prog w) A (.compLoop (.ListComp elt [⟨target,iter,ifs,0⟩] scope pos) 0 it acc env) R s:=by
 refine codeAny_loop rfl I (λn s hI=>?_) n h
 show wpAny _ A ((compTurn (.ListComp elt [⟨target,iter,ifs,0⟩] scope pos) 0 it acc env).onRaise (λx=>do noteFrame x env;theTreesLotGoes x)) _ _ s
 refine wpAny_noted ?_;rw[compTurn_list];refine Pf (wpAny_standAt (Pf (Rz (turn n s hI) (λr s₁ h₁=>?_) λ_ _ h'=>h'.elim)));cases r with
 |none=>exact Ph h₁
 |some v=>
  refine Pf (Rz h₁ (λ_ u7 zy=>?_) λ_ _ h'=>h'.elim);refine Pf (Rz zy (λ_ s₂ h₂=>Pf (Rz h₂ (λok s₃ h₃=>?_) λ_ _ h'=>h'.elim)) λ_ _ h'=>h'.elim);cases ok with
  |false=>exact Ph ⟨rfl,h₃⟩
  |true=>
   exact Pf (Pf (Rz h₃ (λx s₄ h₄=>Pf (Rz h₄ (λ_ s₅ h₅=>Ph (Ph ⟨rfl,h₅⟩)) λ_ _ h'=>h'.elim)) λ_ _ h'=>h'.elim))
end
def eZ(cells:List (Str×Addr)):List (Str×Sd)->List (Str×Addr)->List (Str×Addr)
 |[],cs=>cs
 |(n,k)::r,cs=>eZ cells r (if(k == Qj)=true then(n,(cells.lookup n).getD 0)::cs else cs)
theorem tY(h:∀y∈scope.names,y.2=Qj->∃c,env.cells.lookup y.1=some c):closureFor scope env=pure (eZ env.cells scope.names []):=by
 have go:∀(names:List (Str×Sd))(cs:List (Str×Addr)),(∀y∈names,y.2=Qj->∃c,env.cells.lookup y.1=some c)->
   (forIn names cs λ(x:Str×Sd)(r:List (Str×Addr))=>match x with
    |(name,kind)=>if(kind == Qj)=true then(do let y <-cellOf env name;pure (ForInStep.yield ((name,y)::r))) else(pure (ForInStep.yield r):Sem _))=(pure (eZ env.cells names cs):Sem _):=by
  intro names
  induction names with
  |nil=>intro cs _;rfl
  |cons y r ih=>
   intro cs hy
   obtain⟨n,k⟩:=y
   rw[List.forIn_cons]
   have vn:=λxo=>ih xo λy hm=>hy y (Pj _ hm)
   by_cases hk:(k == Qj)=true
   ·obtain⟨c,hc⟩:=hy (n,k) Pm (by simpa using hk)
    have e1:cellOf env n=pure c:=by unfold cellOf;rw[show env.cells.lookup n=some c from hc]
    have e2:eZ env.cells ((n,k)::r) cs=eZ env.cells r ((n,c)::cs):=by
     show eZ env.cells r (if(k == Qj)=true then _ else _)=_
     rw[if_pos hk,show env.cells.lookup n=some c from hc];rfl
    rw[e2,<-vn ((n,c)::cs)]
    simp only[hk,if_true,e1,pure_bind]
   ·have e2:eZ env.cells ((n,k)::r) cs=eZ env.cells r cs:=by
     show eZ env.cells r (if(k == Qj)=true then _ else _)=_
     rw[if_neg hk]
    rw[e2,<-vn cs]
    simp only[hk,if_false,pure_bind]
    try rfl
 have:=go scope.names [] h
 unfold closureFor
 simpa using this
theorem pX{cells:List (Str×Addr)}{x:Str}{c:Addr}:∀(names:List (Str×Sd))(cs:List (Str×Addr)),(eZ cells names cs).lookup x=some c->cs.lookup x=some c\/(∃y∈names,y.1=x/\y.2=Qj/\c=(cells.lookup x).getD 0)
 |[],_,h=>.inl h
 |(n,k)::r,cs,h=>by
  rcases pX r _ h with h1|⟨y,hy,e⟩
  ·by_cases hk:(k == Qj)=true
   ·rw[if_pos hk]at h1
    by_cases hx:x=n
    ·subst hx;simp only[P0,beq_self_eq_true]at h1;exact .inr ⟨(x,k),Pm,rfl,by simpa using hk,(PP h1).symm⟩
    ·have:(x == n)=false:=by simpa using hx
     simp only[P0,this]at h1;exact .inl h1
   ·rw[if_neg hk]at h1;exact .inl h1
  ·exact .inr ⟨y,Pj _ hy,e⟩
theorem rK{cells:List (Str×Addr)}{x:Str}:∀(names:List (Str×Sd))(cs:List (Str×Addr)),((∃c,cs.lookup x=some c)\/∃y∈names,y.1=x/\y.2=Qj)->∃c,(eZ cells names cs).lookup x=some c
 |[],_,h=>by
  rcases h with h|⟨y,hy,_⟩
  ·exact h
  ·cases hy
 |(n,k)::r,cs,h=>by
  refine rK r _ ?_;rcases h with⟨c,h⟩|⟨y,hy,e1,e2⟩
  ·left
   by_cases hk:(k == Qj)=true
   ·rw[if_pos hk]
    by_cases hx:x=n
    ·subst hx;simp[P0]
    ·have:(x == n)=false:=by simpa using hx
     exact⟨c,by simp only[P0,this];exact h⟩
   ·rw[if_neg hk];exact⟨c,h⟩
  ·rcases PC.mp hy with rfl|hy
   ·left;have hk:(k == Qj)=true:=by simpa using e2
    rw[if_pos hk];have hx:n=x:=e1;subst hx;simp[P0]
   ·exact .inr ⟨y,hy,e1,e2⟩
def hV(os:Scope)(oN:List Str)(sc:Scope)(N:List Str)(js:List (Option Nat)):Bool:=
 (match sc.kind with|.function=>true|_=>false)&&sc.names.all (λy=>match y.2 with
  |.cell=>(match sc.names.lookup y.1 with|some .cell=>true|_=>false)
  |_=>true) &&
 sc.names.all (λy=>match y.2 with
  |.local=>(match sc.names.lookup y.1 with|some .local=>true|_=>false)
  |.free=>(match sc.names.lookup y.1,os.names.lookup y.1 with|some .free,some .cell=>true|some .free,some .free=>true|_,_=>false)
  |_=>true) &&
 js.length == N.length&&(js.zip N).all (λp=>match p.1 with
  |none=>true
  |some j=>(match oN[j]? with|some x=>decide (x=p.2)|none=>false)&&(match sc.names.lookup p.2 with|some .free=>true|_=>false))
structure Jd(os:Scope)(oN:List Str)(sc:Scope)(N:List Str)(js:List (Option Nat)):Prop where
 kind:sc.kind=.function
 own:∀y∈sc.names,y.2=.cell->sc.names.lookup y.1=some .cell
 nm:∀y∈sc.names,y.2=.local->sc.names.lookup y.1=some .local
 fr:∀y∈sc.names,y.2=.free->os.names.lookup y.1=some .cell\/os.names.lookup y.1=some .free
 len:js.length=N.length
 cap:∀(i j:Nat),js[i]?=some (some j)->∃x,N[i]?=some x/\oN[j]?=some x/\sc.names.lookup x=some .free
variable{js:List (Option Nat)}{oN:List Str}{os sc:Scope}
theorem Cz(h:hV os oN sc N js=true):Jd os oN sc N js:=by
 unfold hV at h;simp only[PF]at h;obtain⟨⟨⟨⟨h1,h2⟩,h3⟩,h4⟩,h5⟩:=h;refine⟨?_,λy hy e=>?_,λy hy e=>?_,λy hy e=>?_,by simpa using h4,λi j e=>?_⟩
 ·cases hk:sc.kind <;> rw[hk]at h1 <;> first|rfl|exact absurd h1 Px
 ·have:=P3.mp h2 y hy;rw[e]at this;dsimp only at this;cases hl:sc.names.lookup y.1 with
  |none=>rw[hl]at this;exact absurd this Px
  |some k=>cases k <;> rw[hl]at this <;> first|rfl|exact absurd this Px
 ·have:=P3.mp h3 y hy;rw[e]at this;dsimp only at this;cases hl:sc.names.lookup y.1 with
  |none=>rw[hl]at this;exact absurd this Px
  |some k=>cases k <;> rw[hl]at this <;> first|rfl|exact absurd this Px
 ·have:=P3.mp h3 y hy;rw[e]at this;dsimp only at this;cases hl:sc.names.lookup y.1 with
  |none=>rw[hl]at this;exact absurd this Px
  |some k=>
   rw[hl]at this;cases ho:os.names.lookup y.1 with
   |none=>rw[ho]at this;cases k <;> exact absurd this Px
   |some k'=>rw[ho]at this;cases k <;> cases k' <;> first|exact .inl rfl|exact .inr rfl|exact absurd this Px
 ·have hlen:js.length=N.length:=by simpa using h4
  obtain⟨hi,ej⟩:=Pg.mp e;have hN:i<N.length:=by omega
  have hz:(js.zip N)[i]?=some (some j,N[i]):=by
   rw[List.getElem?_zip_eq_some];exact⟨e,by simp[hN]⟩
  have:=P3.mp h5 _ (PD hz);simp only[PF]at this;obtain⟨t1,t2⟩:=this;refine⟨N[i],by simp[hN],?_,?_⟩
  ·cases ho:oN[j]? with
   |none=>rw[ho]at t1;exact absurd t1 Px
   |some x=>rw[ho]at t1;rw[of_decide_eq_true t1]
  ·cases hl:sc.names.lookup N[i] with
   |none=>rw[hl]at t2;exact absurd t2 Px
   |some k=>rw[hl]at t2;cases k <;> first|rfl|exact absurd t2 Px
theorem cD{κ:Type}{x:Str}{k:κ}:∀{l:List (Str×κ)},l.lookup x=some k->(x,k)∈l
 |[],h=>by simp at h
 |(n,v)::r,h=>by
  by_cases hx:x=n
  ·subst hx;simp only[P0,beq_self_eq_true]at h;cases h
   exact Pm
  ·have:(x == n)=false:=by simpa using hx
   simp only[P0,this]at h;exact Pj _ (cD h)
theorem iZ{sc:Scope}{env:Env}:∀{names:List (Str×Sd)}{x:Str}{k:Sd},(names.map λ(n,k)=>if(k == Qj&&env.scope.kind == .function&&env.kindOf n == some .cell) then(n,SU) else(n,k)).lookup x=some k->
  names.lookup x=some k\/(k=.cell/\names.lookup x=some .free)
 |[],_,_,h=>by simp at h
 |(n,q)::r,x,k,h=>by
  have ih:=@iZ sc env r x k
  by_cases hc:(q == Qj&&env.scope.kind == .function&&env.kindOf n == some .cell)=true
  ·simp only[Pv]at h;rw[if_pos hc]at h;have hq:q=.free:=by
    simp only[PF]at hc;simpa using hc.1.1
   by_cases hx:x=n
   ·subst hx;simp only[P0,beq_self_eq_true]at h⊢;exact .inr ⟨(PP h).symm,by rw[hq]⟩
   ·have e:(x == n)=false:=by simpa using hx
    simp only[P0,e]at h⊢;exact ih h
  ·simp only[Pv]at h;rw[if_neg hc]at h
   by_cases hx:x=n
   ·subst hx;simp only[P0,beq_self_eq_true]at h⊢;exact .inl h
   ·have e:(x == n)=false:=by simpa using hx
    simp only[P0,e]at h⊢;exact ih h
theorem mO{env:Env}:∀{names:List (Str×Sd)}{x:Str},names.lookup x=some .free->
  (names.map λ(n,k)=>if(k == Qj&&env.scope.kind == .function&&env.kindOf n == some .cell) then(n,SU) else(n,k)).lookup x=some .free\/
  (names.map λ(n,k)=>if(k == Qj&&env.scope.kind == .function&&env.kindOf n == some .cell) then(n,SU) else(n,k)).lookup x=some .cell
 |[],_,h=>by simp at h
 |(n,q)::r,x,h=>by
  have ih:=@mO env r x
  by_cases hc:(q == Qj&&env.scope.kind == .function&&env.kindOf n == some .cell)=true
  ·simp only[Pv];rw[if_pos hc]
   by_cases hx:x=n
   ·subst hx;simp only[P0,beq_self_eq_true]
    first|exact .inr rfl|exact .inr trivial
   ·have e:(x == n)=false:=by simpa using hx
    simp only[P0,e]at h⊢;exact ih h
  ·simp only[Pv];rw[if_neg hc]
   by_cases hx:x=n
   ·subst hx;simp only[P0,beq_self_eq_true]at h⊢;exact .inl h
   ·have e:(x == n)=false:=by simpa using hx
    simp only[P0,e]at h⊢;exact ih h
theorem aR:∀(names:List (Str×Sd))(n:Nat)(acc:List (Str×Addr)),Qu n names acc=Qu n names []++acc
 |[],_,_=>rfl
 |(x,k)::r,n,acc=>by
  unfold Qu;split
  ·rw[aR r _ ((x,n)::acc),aR r _ [(x,n)],List.append_assoc];rfl
  ·exact aR r n acc
set_option tactic.hygienic true in
theorem hW{x:Str}{c:Addr}:∀{names:List (Str×Sd)}{n:Nat},(x,c)∈Qu n names []->(x,SU)∈names
 |[],_,h=>by cases h
 |(y,k)::r,n,h=>by
  unfold Qu at h;split at h
  ·rename_i hk;rw[aR,PK]at h;rcases h with h|h
   ·exact Pj _ (hW h)
   ·have e:=Pz.mp h;have ex:x=y:=congrArg Prod.fst e;have ek:k=.cell:=by simpa using hk
    rw[ex,ek];exact Pm
  ·exact Pj _ (hW h)
theorem pY{α:Type}{x:Str}{c:α}:∀{l:List (Str×α)},(x,c)∈l->∃d,l.lookup x=some d
 |(y,d)::r,h=>by
  by_cases e:x=y
  ·subst e;exact⟨d,by simp[P0]⟩
  ·have z:(x == y)=false:=by simpa using e
   rcases PC.mp h with q|q
   ·exact absurd (congrArg Prod.fst q) e
   ·obtain⟨d',hd⟩:=pY q;exact⟨d',by simp only[P0,z];exact hd⟩
theorem eI{x:Str}:∀{names:List (Str×Sd)}{n:Nat},(x,SU)∈names->∃c,(Qu n names []).lookup x=some c
 |(y,k)::r,n,h=>by
  have go:∃c,(x,c)∈Qu n ((y,k)::r) []:=by
   rcases PC.mp h with q|q
   ·have ex:x=y:=congrArg Prod.fst q;have ek:k=.cell:=(congrArg Prod.snd q).symm;refine⟨n,?_⟩;unfold Qu;rw[if_pos (by rw[ek];rfl),aR,ex];exact Pp _ Pm
   ·unfold Qu;split
    ·obtain⟨c,hc⟩:=eI (n:=n+1) q;rw[aR];exact⟨c,Qe _ (mem_of_lookup hc)⟩
    ·obtain⟨c,hc⟩:=eI (n:=n) q;exact⟨c,mem_of_lookup hc⟩
  obtain⟨c,hc⟩:=go;exact pY hc
theorem mQ{α:Type}{x:Str}:∀{l r:List (Str×α)},(l++r).lookup x=(l.lookup x).or (r.lookup x)
 |[],_=>by simp
 |(y,d)::l,r=>by
  have ih:=mQ (x:=x) (l:=l) (r:=r);cases e:x == y with
  |true=>simp[P0,e]
  |false=>simp only[SF,P0,e];exact ih
variable{M:Model}{builtins globals:Addr}{closure:List (Str×Addr)}{code:Value}{func:Option Addr}
theorem oC{outer:Env}{Q:Env->Shared->Prop}(hQ:Q (newEnv scope s.heap.objs.size globals (Qu (s.heap.objs.size+1) scope.names closure) qual func code (some outer) builtins) { s with heap:=pushCells (s.heap.push { cls:=.type "dict",data:=.dict #[] }) scope.names }):
  wpAny M A (newFunctionEnv scope globals closure [] qual func code (some outer) builtins) Q E s:=by
 simp only[newFunctionEnv,RD,if_true];refine Pf (wpAny_alloc ?_);refine Pf (wpAny_layCells _ (λname kind cells=>by cases hkc:kind == SU <;> simp[hkc]) _ _ _ _ ?_);rw[show({ s with heap:=s.heap.push { cls:=.type "dict",data:=.dict #[] } }:Shared).heap.objs.size=s.heap.objs.size+1 from Sv ..]
 rw[List.forIn_nil];exact Pf (Ph (Ph hQ))
def Cx.comp(X:Cx)(sc:Scope)(N:List Str)(C:Addr)(fp:List Addr)(s₀:Shared)(H₀:Hp):Cx:=
 { X with N:=N,s₀:=s₀,H₀:=H₀,env:=compEnvC sc (Qu (C+1) sc.names (eZ X.env.cells sc.names [])) C X.env,outer:=X.stack,ex:=fp,fn:=λx=>(match sc.names.lookup x with|some .cell=>true|_=>false),pn:=[],xe:=λ_ _=>False }
def DX:St->Nat->Option V
 |[],_=>none
 |x::_,0=>x
 |_::r,n+1=>DX r n
theorem yR:∀{σ:St}{i:Nat}{v:V},DX σ i=some v->σ[i]?=some (some v)
 |[],_,_,h=>by cases h
 |x::_,0,v,h=>by
  have h':x=some v:=h;simp[h']
 |_::r,n+1,v,h=>by
  rw[Q5];exact yR (σ:=r) (i:=n) h
def hZ(js:List (Option Nat))(σ:St):St:=js.map λo=>match o with
 |none=>none
 |some j=>DX σ j
variable{i:Nat}
theorem Gn(h:(hZ js σ)[i]?=some (some v)):∃j,js[i]?=some (some j)/\σ[j]?=some (some v):=by
 unfold hZ at h;rw[Pu]at h;cases e:js[i]? with
 |none=>rw[e]at h;cases h
 |some o=>
  rw[e]at h;cases o with
  |none=>cases h
  |some j=>exact⟨j,rfl,yR (PP h)⟩
def PTs(X:Cx)(ifs:List Expr)(t:TT):Prop:=
 ∀(pins:List (Addr×Obj))(s:Shared)(σ:St)(H:Hp)(Q:Bool->Hp->Prop),Inv X pins σ H s->t σ H Q->wpAny (model X.prog X.w) X.A (Br ifs X.env) (TP X pins σ Q) X.xe s
def Ld:TT:=λ_ H Q=>Q true H
theorem Gp:PTs X [] Ld:=λ_ _ _ H _ I h=>wpAny_tests_nil ⟨H,I,h⟩
theorem Gq{c:Expr}{t:TT}(h:PT X c t):PTs X [c] t:=λpins s σ H Q I q=>wpAny_tests_one (h pins s σ H Q I q)
def Ie(js:List (Option Nat))(g:TG)(tt:TT)(te:TE)(σ:St)(acc:Addr)(x:V)(H:Hp)(N:Hp->Prop):Prop:=g x (hZ js σ) H λσ2 H4=>tt σ2 H4 λb H5=>
   if b=true then te σ2 H5 λv H6=>∃ys,H6 acc=some (.lst ys)/\ys.length<Pt/\N (upd H6 acc (.lst (ys++[v]))) else N H5
def Bs(js:List (Option Nat))(wi:TI)(g:TG)(tt:TT)(te:TE):TE:=λσ H Q=>wi σ H λJ H1=>∀acc,H1 acc=none->
 ∃W:Nat->Nat->Hp->Prop,(∃m,W 0 m (upd H1 acc (.lst [])))/\∀i m H2,W i m H2->
  (J.stop i H2/\Q (.ref acc) H2)\/(J.go i H2/\∃N:Hp->Prop,(∀H',N H'->∃m',m'<m/\W (i+1) m' H')/\∀x H3,J.yld i H2 x H3->Ie js g tt te σ acc x H3 N)
structure Off(X:Cx)(pins:List (Addr×Obj))(H:Hp)(C:Addr)(s:Shared):Prop where
 ns:∃m,s.heap.Ns C m
 none:H C=none
 loc:C≠X.env.locals
 new:X.s₀.heap.objs.size<=C
 cells:∀x c,X.env.cells.lookup x=some c->c≠C
 pins:∀p∈X.pn++pins,p.1≠C
theorem Off.go{C:Addr}(o:Off X pins H C s)(I:Inv X pins σ H s)(hs:QN C s.heap h'):Inv X pins σ H { s with heap:=h' }:=
 I.turned (t':=s.toks) (λb ob hb e=>(hs.2 b hb).trans e) o.none o.loc (.inr o.new) o.cells o.pins
variable{Q0:Value->Shared->Prop}{te:TE}{tg:Expr}{tt:TT}{use:Option (Value->Sem Unit)}{wi:TI}
theorem uP{elt:Expr}{g:TG}(hc:X.calm=true)(dz:X.env.scope=os)(iz:X.N=oN)(ok:hV os oN sc N js=true)(hi:PI X tg iter wi)(hg:∀C fp s₀ H₀,PG (X.comp sc N C fp s₀ H₀) tg g)(ht:∀C fp s₀ H₀,PTs (X.comp sc N C fp s₀ H₀) ifs tt)(he:∀C fp s₀ H₀,PE (X.comp sc N C fp s₀ H₀) elt te){Q:VK}(I:Inv X pins σ H s)(h:Bs js wi g tt te σ H Q)(r8:∀acc C s6 H6,Inv X pins σ H6 s6->Off X pins H6 C s6->Q (.ref acc) H6->compPost (model X.prog X.w) X.A X.xe use Q0 (.ref acc) C (.ok .next) s6)(hs:∀x,QU iter X.env x=pure x:=by intro _;rfl):
  wpAny (model X.prog X.w) X.A (comprehension (.ListComp elt [⟨tg,iter,ifs,0⟩] sc pos) sc X.env (firstIterPos [⟨tg,iter,ifs,0⟩] pos) (newList []) false (eval iter X.env) use) Q0 X.xe s:=by
 have S:=Cz ok;subst dz iz;have vk:∀y∈sc.names,y.2=Qj->∃c,X.env.cells.lookup y.1=some c:=λy hy e=>I.ok.has y.1 (S.fr y hy e);have ji:∀x c,(eZ X.env.cells sc.names []).lookup x=some c->X.env.cells.lookup x=some c:=λx c e=>by
  rcases pX _ _ e with z|⟨y,hy,e1,e2,e3⟩
  ·cases z
  ·obtain⟨d,hd⟩:=vk y hy e2;rw[e1]at hd;rw[hd]at e3;rw[hd,e3];rfl
 refine wpAny_comprehension_free (use:=use) rfl hs (tY vk) S.kind S.nm (thn (hi pins s σ H _ I h) λv s1 h1=>thn h1 λqm s2 h2=>?_);obtain⟨it,fp,tn,J,H2,e,I2,T,pw,f2,q⟩:=h2;subst e;obtain⟨W,⟨m0,w0⟩,turn⟩:=q s2.heap.objs.size I2.fresh;refine PY (oC ?_);have I3:Inv X pins σ (upd H2 s2.heap.objs.size (.lst [])) { s2 with heap:=s2.heap.push { cls:=.type "list",data:=.seq ([]:List Value).toArray },toks:=s2.toks }:=I2.lnew (its:=[]) (ys:=[]) .nil (P8 _);generalize z6:upd H2 s2.heap.objs.size (HO.lst [])=H3 at w0 I3;generalize zr:({ s2 with heap:=s2.heap.push { cls:=.type "list",data:=.seq ([]:List Value).toArray },toks:=s2.toks }:Shared)=s3 at I3;have OL:({ s2 with heap:=s2.heap.push { cls:=.type "list",dict:=none,data:=.seq ([]:List Value).toArray } }:Shared)=s3:=zr;have u5:s2.heap.push { cls:=.type "list",dict:=none,data:=.seq ([]:List Value).toArray }=s3.heap:=by rw[<-OL]
 (try rw[u5])
 have hC:∀b o,s3.heap.get? b=some o->b≠s3.heap.objs.size:=λb o e=>Qd (Py e);have old:∀b o,s3.heap.get? b=some o->(pushCells (s3.heap.push { cls:=.type "dict",data:=.dict #[] }) sc.names).get? b=some o:=λb o e=>pushCells_keeps _ _ b o (Pn _ e);have pb:(pushCells (s3.heap.push { cls:=.type "dict",data:=.dict #[] }) sc.names).Ns s3.heap.objs.size (λ_=>none):=(Heap.Ns.new s3.heap (.type "dict")).keeps (pushCells_keeps _ _);have nk:=cellsFrom_ok sc.names (s3.heap.push { cls:=.type "dict",data:=.dict #[] }) (s3.heap.objs.size+1) [] ⟨λ_ _ hm=>(nomatch hm),List.Pairwise.nil⟩ (by rw[Sv];exact Pk _);rw[Sv]at nk;generalize pushCells (s3.heap.push { cls:=.type "dict",data:=.dict #[] }) sc.names=h₁ at old pb nk⊢;have n4:∀{x c},(Qu (s3.heap.objs.size+1) sc.names (eZ X.env.cells sc.names [])).lookup x=some c->((x,c)∈Qu (s3.heap.objs.size+1) sc.names []/\h₁.IsCell c none/\s3.heap.objs.size+1<=c)\/(X.env.cells.lookup x=some c/\c<s3.heap.objs.size):=λ{x c} e=>by
  rw[aR,mQ]at e;cases eo:(Qu (s3.heap.objs.size+1) sc.names []).lookup x with
  |some d=>
   rw[eo]at e;cases e
   have:=mem_of_lookup eo;exact .inl ⟨this,nk.empty x c this⟩
  |none=>
   rw[eo]at e;have e:=ji x c e;obtain⟨v,z⟩:=I3.cell x c e;exact .inr ⟨e,z.lt⟩
 have u4:∀{x c},sc.names.lookup x=some .free->(eZ X.env.cells sc.names []).lookup x=some c->(Qu (s3.heap.objs.size+1) sc.names (eZ X.env.cells sc.names [])).lookup x=some c:=λ{x c} hf e=>by
  rw[aR,mQ];cases eo:(Qu (s3.heap.objs.size+1) sc.names []).lookup x with
  |some d=>
   have:=S.own _ (hW (mem_of_lookup eo)) rfl;rw[hf]at this;cases this
  |none=>exact e
 have n5:tn 0 s3.heap:=T.keep 0 _ _ pw λb hb o e=>by
  rw[<-u5];exact Pn _ e
 have qu:∀b∈fp,∃o,s3.heap.get? b=some o/\∀v,o.data≠.cell v:=T.obj 0 _ n5;have f3:∀b∈fp,yI X pins H3 b:=λb hb=>by
  obtain⟨o,ho,_⟩:=T.obj 0 _ pw b hb;refine⟨?_,(f2 b hb).2⟩;rw[<-z6,aE (Qd (Py ho))];exact(f2 b hb).1
 -- the block's context
 have pj:(X.comp sc N s3.heap.objs.size fp s3 H3).Ok:=by
  refine⟨I.ok.mod,S.kind,I.ok.glob,I.ok.blt,Pk _,λx y c e1 e2=>?_,λx hx=>?_,λx c z e=>?_,I.ok.hd,I.ok.frames,.inl rfl,λb hb=>?_,I3.bs,
   P6 I.ok.bsz I3.sz,λb o e hb=>?_,λb hb hf=>?_,I3.stack,I3.stkFree⟩
  ·rcases n4 e1 with⟨m1,_,g1⟩|⟨z1,g1⟩ <;> rcases n4 e2 with⟨m2,_,g2⟩|⟨z2,g2⟩
   ·exact name_of_addr nk.apart m1 m2
   ·exact absurd (PN g2 (Nat.le_of_succ_le g1)) (Rg _)
   ·exact absurd (PN g1 (Nat.le_of_succ_le g2)) (Rg _)
   ·exact I.ok.inj x y c z1 z2
  ·have fr:sc.names.lookup x=some .free->∃c,(Qu (s3.heap.objs.size+1) sc.names (eZ X.env.cells sc.names [])).lookup x=some c:=λhf=>
    let ⟨c,hc⟩:=rK (cells:=X.env.cells) (x:=x) sc.names [] (.inr ⟨_,cD hf,rfl,rfl⟩)
    ⟨c,u4 hf hc⟩
   have fin:∀{k},(relabel sc X.env).names.lookup x=some k->(k=.cell\/k=.free)->∃c,(Qu (s3.heap.objs.size+1) sc.names (eZ X.env.cells sc.names [])).lookup x=some c:=λ{k} e hk=>by
    rcases iZ (sc:=sc) e with z|⟨_,z⟩
    ·rcases hk with rfl|rfl
     ·obtain⟨c,hc⟩:=eI (n:=s3.heap.objs.size+1) (cD z);exact⟨c,by rw[aR,mQ,hc];rfl⟩
     ·exact fr z
    ·exact fr z
   rcases hx with hx|hx
   ·exact fin hx (.inl rfl)
   ·exact fin hx (.inr rfl)
  ·have z:sc.names.lookup x=some .cell:=by
    have z:(match sc.names.lookup x with|some .cell=>true|_=>false)=true:=z
    split at z
    ·assumption
    ·cases z
   have e:(Qu (s3.heap.objs.size+1) sc.names (eZ X.env.cells sc.names [])).lookup x=some c:=e;obtain⟨d,hd⟩:=eI (n:=s3.heap.objs.size+1) (cD z);rw[aR,mQ,hd]at e;cases e
   exact Nat.le_of_succ_le (nk.empty x c (mem_of_lookup hd)).2
  ·obtain⟨o,ho,_⟩:=qu b hb;refine⟨hC b o ho,λx c e=>?_⟩;rcases n4 e with⟨_,_,g1⟩|⟨z1,_⟩
   ·exact SQ (PN (Py ho) (Nat.le_of_succ_le g1))
   ·exact(f3 b hb).2.2.2.2.1 x c z1
  ·rcases(f3 b hb).2.2.2.1 with z|z
   ·exact I.ok.noex b o e z
   ·exact absurd (PN (Py e) (P6 I.ok.bsz z)) (Rg _)
  ·rcases PC.mp (I3.stkSub b hf) with z|z
   ·exact(f3 b hb).2.1 z
   ·exact(f3 b hb).2.2.1 z
 -- what the block takes from around it
 have m8:∀(i:Nat)(x:Str)(v:V),N[i]?=some x->(hZ js σ)[i]?=some (some v)->∃u c o,RelV v u/\((compEnvC sc (Qu (s3.heap.objs.size+1) sc.names (eZ X.env.cells sc.names [])) s3.heap.objs.size X.env).kindOf x=some .cell\/(compEnvC sc (Qu (s3.heap.objs.size+1) sc.names (eZ X.env.cells sc.names [])) s3.heap.objs.size X.env).kindOf x=some .free)/\
   (Qu (s3.heap.objs.size+1) sc.names (eZ X.env.cells sc.names [])).lookup x=some c/\s3.heap.get? c=some o/\o.data=.cell (some u)/\H3 c=none/\c∉fp:=by
  intro i x v hN hv;obtain⟨j,hj,hσ⟩:=Gn hv;obtain⟨x',cz,ho,hf⟩:=S.cap i j hj;rw[hN]at cz;cases cz;obtain⟨m,hn,hl⟩:=I3.loc;have sm:Vis X.env.scope x:=by
   rcases S.fr _ (cD hf) rfl with z|z
   ·exact .inr (.inl z)
   ·exact .inr (.inr z)
  obtain⟨u,r,l⟩:=hl j x v ho hσ sm;obtain⟨c,o5⟩:=rK (cells:=X.env.cells) (x:=x) sc.names [] (.inr ⟨_,cD hf,rfl,rfl⟩);have qr:=ji x c o5;have d9:s3.heap.IsCell c (some u):=by
   rcases l with⟨k,_⟩|⟨_,c',e,z⟩
   ·exfalso;rcases S.fr _ (cD hf) rfl with z|z
    ·have k':X.env.scope.names.lookup x=some .local:=k;rw[z]at k';cases k'
    ·have k':X.env.scope.names.lookup x=some .local:=k;rw[z]at k';cases k'
   ·rw[qr]at e;cases e;exact z
  obtain⟨o,cp,hd⟩:=d9;refine⟨u,c,o,r,?_,u4 hf o5,cp,hd,I3.freeC x c qr,λhb=>(f3 c hb).2.2.2.2.1 x c qr rfl⟩;exact(mO (env:=X.env) hf).symm
 -- at any state of the block,its names as at its start
 have oj:∀{c8:List (Addr×Obj)}{σ8:St}{H8:Hp}{s8:Shared},Inv (X.comp sc N s3.heap.objs.size fp s3 H3) c8 σ8 H8 s8->Inv (X.comp sc N s3.heap.objs.size fp s3 H3) [] (hZ js σ) H8 s8:=λ{c8 σ8 H8 s8} I8=>by
  refine⟨I8.ok,I8.os,I8.bare,I8.base,?_,I8.cell,I8.free,I8.freeC,λp hp=>by simp[Cx.comp]at hp,I8.hok,?_⟩
  ·obtain⟨m,hn,_⟩:=I8.loc;refine⟨m,hn,λi x v hN hv _=>?_⟩;obtain⟨u,c,o,r,k,hl,ho,hd,yr,OO⟩:=m8 i x v hN hv;refine⟨u,r,.inr ⟨k,c,hl,?_⟩⟩;obtain⟨sl,e⟩:=I8.base.any ho yr OO;exact⟨_,e,hd⟩
  ·show(hZ js σ).length=N.length
   unfold hZ;rw[Pl,S.len]
 have I4:Inv (X.comp sc N s3.heap.objs.size fp s3 H3) [] (hZ js σ) H3 { s3 with heap:=h₁ }:=by
  refine⟨pj,rfl,I3.bare,Un.kept old,⟨_,pb,λi x v hN hv _=>?_⟩,λx c e=>?_,I3.fresh,λx c e=>?_,λp hp=>by simp[Cx.comp]at hp,I3.hok.kept old,?_⟩
  ·obtain⟨u,c,o,r,k,hl,ho,hd,_,_⟩:=m8 i x v hN hv;exact⟨u,r,.inr ⟨k,c,hl,o,old c o ho,hd⟩⟩
  ·rcases n4 e with⟨_,g1,_⟩|⟨z1,_⟩
   ·exact⟨_,g1⟩
   ·obtain⟨v,o,ho,hd⟩:=I3.cell x c z1;exact⟨v,o,old c o ho,hd⟩
  ·rcases n4 e with⟨_,_,g1⟩|⟨z1,_⟩
   ·exact I3.hok.fresh (by omega)
   ·exact I3.freeC x c z1
  ·show(hZ js σ).length=N.length
   unfold hZ;rw[Pl,S.len]
 have u9:tn 0 h₁:=T.keep 0 _ _ n5 λb hb o e=>old b o e;have km:∀{H':Hp},(∀b∈fp,H' b=none)->∀b∈fp,yI (X.comp sc N s3.heap.objs.size fp s3 H3) [] H' b:=λ{H'} hn b hb=>
  ⟨hn b hb,(pj.exf b hb).1,pj.exfs b hb,.inl hb,(pj.exf b hb).2,λp hp=>by simp[Cx.comp]at hp⟩
 have fin:∀(s6:Shared)(H6:Hp),Inv (X.comp sc N s3.heap.objs.size fp s3 H3) [] (hZ js σ) H6 s6->Q (.ref s2.heap.objs.size) H6->compPost (model X.prog X.w) X.A X.xe use Q0 (.ref s2.heap.objs.size) s3.heap.objs.size (.ok .next) s6:=λs6 H6 I6 q6=>by
  have I7:Inv X pins σ H6 s6:=I3.call' (ch:=fp) I6.os I6.base I6.hok I6.bare λb hb=>⟨(f3 b hb).2.2.2.1,(f3 b hb).2.1,(f3 b hb).2.2.2.2.1,(f3 b hb).2.2.2.2.2⟩;refine r8 _ _ _ _ I7 ⟨let ⟨m,hn,_⟩:=I6.loc;⟨m,hn⟩,I6.free,SQ I3.lt,I3.sz,λx c e=>?_,λp hp=>?_⟩ q6
  ·obtain⟨v,z⟩:=I3.cell x c e;exact Qd z.lt
  ·exact Qd (Py (I3.pin p hp).1)
 have loop:codeAny (model X.prog X.w) X.A (.compLoop (.ListComp elt [⟨tg,iter,ifs,0⟩] sc pos) 0 (.ref it) (.ref s2.heap.objs.size) (compEnvC sc (Qu (s3.heap.objs.size+1) sc.names (eZ X.env.cells sc.names [])) s3.heap.objs.size X.env))
   (compPost (model X.prog X.w) X.A X.xe use Q0 (.ref s2.heap.objs.size) s3.heap.objs.size) { s3 with heap:=h₁ }:=by
  refine wC (λn s'=>∃i H',Inv (X.comp sc N s3.heap.objs.size fp s3 H3) [] (hZ js σ) H' s'/\tn i s'.heap/\(∀b∈fp,H' b=none)/\W i n H') ?_ m0 ⟨0,H3,I4,u9,λb hb=>(f3 b hb).1,w0⟩;rintro n s5 ⟨i,H5,I5,lp,ix,w5⟩;rcases turn i n H5 w5 with⟨stop,qn⟩|⟨go,Nn,hN,step⟩
  ·refine thn (T.done (X.comp sc N s3.heap.objs.size fp s3 H3) rfl rfl rfl hc i [] s5 (hZ js σ) H5 (λ_ _=>False) I5 (km ix) lp stop) λr s6 ⟨hr,I6⟩=>?_;subst hr;exact fin s6 H5 I6 qn
  ·refine thn (T.item (X.comp sc N s3.heap.objs.size fp s3 H3) rfl rfl rfl hc i [] s5 (hZ js σ) H5 (λ_ _=>False) I5 (km ix) lp go) λr s6 ⟨u,hr,h6⟩=>?_;subst hr;refine thn h6 λ_ s7 hz=>?_;obtain⟨x,H7,I7,r7,y7,sd,yg⟩:=hz;have OF:=I7.pinned (km yg) (T.obj _ _ sd);refine thn (hg _ _ _ _ _ s7 _ H7 x u _ OF r7 (step x H7 y7)) λ_ s8 ⟨σ8,H8,I8,q8⟩=>?_;refine thn (ht _ _ _ _ _ s8 σ8 H8 _ I8 q8) λb s9 ⟨H9,I9,q9⟩=>?_;have again:∀{σ':St}{H':Hp}{s':Shared},Inv (X.comp sc N s3.heap.objs.size fp s3 H3) ([]++rC fp s7.heap) σ' H' s'->Nn H'->∃m,m<n/\∃i H',Inv (X.comp sc N s3.heap.objs.size fp s3 H3) [] (hZ js σ) H' s'/\tn i s'.heap/\(∀b∈fp,H' b=none)/\W i m H':=λ{σ' H' s'} I' n'=>by
    obtain⟨m',hm,w'⟩:=hN H' n';refine⟨m',hm,i+1,H',oj I',T.keep _ _ _ sd λb hb o e=>(I'.pin (b,o) (Pp _ (Pp _ (gZ hb e)))).1,λb hb=>?_,w'⟩;obtain⟨o,e,d⟩:=T.obj _ _ sd b hb;exact(I'.pin (b,o) (Pp _ (Pp _ (gZ hb e)))).2.1
   cases b with
   |false=>exact again I9 q9
   |true=>
    refine thn (he _ _ _ _ _ s9 σ8 H9 _ I9 q9) λu' s10 ⟨v,H10,I10,rv,ys,bx,hz,n10⟩=>?_;refine thn (uL (X:=X.comp sc N s3.heap.objs.size fp s3 H3) _ s10 σ8 H10 (.ref s2.heap.objs.size) [v] (.ref s2.heap.objs.size) [u'] (λ_ H'=>Nn H') I10 rfl (.cons rv .nil) ⟨_,ys,v,rfl,rfl,bx,hz,n10⟩) λ_ s11 ⟨_,H11,I11,_,n11⟩=>?_;exact again I11 n11
 exact codeAny_compStart_list loop (T.self X.A 0 _ _ _ u9 loop)
theorem Gr{elt:Expr}{g:TG}(hc:X.calm=true)(dz:X.env.scope=os)(iz:X.N=oN)(ok:hV os oN sc N js=true)(hi:PI X tg iter wi)(hg:∀C fp s₀ H₀,PG (X.comp sc N C fp s₀ H₀) tg g)(ht:∀C fp s₀ H₀,PTs (X.comp sc N C fp s₀ H₀) ifs tt)(he:∀C fp s₀ H₀,PE (X.comp sc N C fp s₀ H₀) elt te)(hs:∀x,QU iter X.env x=pure x:=by intro _;rfl):PE X (.ListComp elt [⟨tg,iter,ifs,0⟩] sc pos) (Bs js wi g tt te):=by
 intro pins s σ H Q I h;rw[eval_ListComp];refine uP (use:=none) hc dz iz ok hi hg ht he I h (λacc C s6 H6 I6 o q=>?_) hs;exact⟨o.ns.choose,o.ns.choose_spec,λh' dj=>⟨.ref acc,H6,o.go I6 dj,rfl,q⟩⟩
variable{cx pos':Pos}
theorem Aw{elt:Expr}{g:TG}(hN:X.N.Nodup)(cz:X.N[i]?=some x)(iu:X.env.scope.names.lookup x=some .local)(hc:X.calm=true)(dz:X.env.scope=os)(iz:X.N=oN)(ok:hV os oN sc N js=true)(hi:PI X tg iter wi)(hg:∀C fp s₀ H₀,PG (X.comp sc N C fp s₀ H₀) tg g)(ht:∀C fp s₀ H₀,PTs (X.comp sc N C fp s₀ H₀) ifs tt)(he:∀C fp s₀ H₀,PE (X.comp sc N C fp s₀ H₀) elt te)(o6:SS (.ListComp elt [⟨tg,iter,ifs,0⟩] sc pos) (some (.Name x pos')) cx.line X.env=pure true:=by rfl)(hs:∀x,QU iter X.env x=pure x:=by intro _;rfl):PS X (.Assign [.Name x pos'] (.ListComp elt [⟨tg,iter,ifs,0⟩] sc pos) cx) (IJ (Bs js wi g tt te) (Dx i)):=by
 intro pins s σ H D I h
 rw[exec_Assign_Name_used _ _ _ _ o6]
 refine Pf (wpAny_standAt (Pf ?_))
 show wpAny _ X.A (do let _ <-comprehension (.ListComp elt [⟨tg,iter,ifs,0⟩] sc pos) sc X.env _ (newList []) false (eval iter X.env) (some (assign (.Name x pos') X.env))) _ _ s
 refine Pf (thn (uP (use:=some (assign (.Name x pos') X.env)) (Q0:=λ_ s'=>SP X pins D .next s') hc dz iz ok hi hg ht he I h (λacc C s6 H6 I6 o q=>?_) hs) λ_ s' hq=>Ph (Ph hq))
 show wpAny _ X.A (assign (.Name x pos') X.env (.ref acc)) _ _ _
 refine wpAny_assign_Name (uE I6 hN cz (.inl iu) (v:=.ref acc) rfl (λs7 I7 ⟨a,hs7,ha⟩=>?_) (.inr iu))
 have v8:C≠a:=by
  rcases ha with rfl|ha
  ·exact o.loc
  ·exact λe=>o.cells x a ha e.symm
 obtain⟨m,hn⟩:=o.ns
 have o7:Off X pins H6 C s7:=⟨⟨m,hn.sameBut hs7 v8⟩,o.none,o.loc,o.new,o.cells,o.pins⟩
 exact⟨m,hn.sameBut hs7 v8,λh' dj=>⟨_,H6,o7.go I7 dj,q⟩⟩
def Le:V->Option Int->Option Int->Hp->VK->Prop:=λx lo hi H Q=>∃z,x=.str z/\z.length<=Pt/\Q (.str (Si z lo hi)) H
theorem part_of{v:Value}{o:Option Int}(h:IsPart v o):∃p:Option (Int×Tok),v=partValue p/\p.map (·.1)=o:=by
 cases h with
 |none=>exact⟨none,rfl,rfl⟩
 |int i t=>exact⟨some (i,t),rfl,rfl⟩
theorem Je:SlR X Le:=by
 intro pins s σ H x v vl vu lo hi sl Q I rx hs pl pu h;obtain⟨z,rfl,hz,q⟩:=h;obtain⟨t,rfl⟩:=rx;obtain⟨l,rfl,rfl⟩:=part_of pl;obtain⟨u,rfl,rfl⟩:=part_of pu;obtain⟨o,ho,hc,hd⟩:=hs;refine⟨"str",_,PySem.F.slot_str_getitem.lookup,typeIs_str s z t,?_⟩;refine wpAny_getItem_str_slice (l:=l) (u:=u) (st:=none) ⟨o,ho,hc,hd⟩ rfl ?_;have e:sliceMade z t l u none=if((1:Int) == 1&&(Sj (l.map (·.1)) (u.map (·.1)) 1 z.length).length == z.length)=true then Made.val (.str z t) else Made.str ⟨((Sj (l.map (·.1)) (u.map (·.1)) 1 z.length).filterMap (z.cps[·]?)).toArray⟩:=rfl;have hle:=Txt.slice_le z (l.map (·.1)) (u.map (·.1));unfold Si at q hle;rw[e]
 by_cases mr:((1:Int) == 1&&(Sj (l.map (·.1)) (u.map (·.1)) 1 z.length).length == z.length)=true
 ·rw[if_pos mr]at q⊢;exact⟨.str z,H,I,⟨t,rfl⟩,q⟩
 ·rw[if_neg mr]at q hle⊢;exact⟨P6 hle hz,.str _,H,I.tok _,⟨_,rfl⟩,q⟩
theorem rN:∀{ss:List Str}{us:List Value},aJ (ss.map V.str) us->StrsAre us ss
 |[],_,r=>by cases r;exact .nil
 |x::ss,_,r=>by
  cases r with
  |cons h t=>
   obtain⟨tk,rfl⟩:=h;exact .cons x tk (rN t)
theorem uQ:∀{us:List Value}{ss:List Str},StrsAre us ss->aJ (ss.map V.str) us
 |_,_,.nil=>.nil
 |_,_,.cons x t h=>.cons ⟨t,rfl⟩ (uQ h)
theorem oE:cL X (.builtin "sorted") (λxs H Q=>∃p ss,xs=[.ref p]/\SqL X.K H p (ss.map V.str)/\ss.length<64/\
  ∀l ib,H l=none->ib.Perm ss->sortedS ib=true->Q (.ref l) (upd H l (.lst (ib.map V.str)))):=by
 intro pins s σ H xs us Q I r h;obtain⟨p,ss,rfl,hq,i6,q⟩:=h;obtain⟨u,rfl,ru⟩:=vals1 r;cases ru
 obtain⟨its,rv,pl,hz⟩:=I.list hq;have hlen:=rv.length;rw[Pl]at hlen;refine sorted_strs pl.isList (rN rv) (by omega) λout ib a1 a2 a3=>?_;obtain⟨e,he⟩:=sortedAll_at s.heap its out;refine⟨.ref (s.heap.objs.size+1),_,I.laid (t':=s.toks) (o:=.lst (ib.map V.str)) (λb ob h=>sortedAll_old h) (RK _) ?_,rfl,q _ ib (I.hok.fresh (RK _)) a2 a3⟩;refine⟨?_,out.toList,e,uQ a1,by rw[he]⟩;rw[Pl,a2.length_eq];exact RY (Nat.lt_trans i6 (by decide))
variable{es:List Expr}
theorem gT{k:Nat}{t:TGs}(K:Pi)(hK:X.K=K)(hc:X.calm=true)(h:PGs X es t)(hn:(RA es X.env).length=n:=by rfl)(f7:(RA es X.env).findIdx? (·.1)=none:=by rfl):PG X (.Tuple es k pos) (KR K n t):=by subst hK;exact II hc h hn f7
variable{e:Expr}{f:Value->Value->Sem Value}{g:Int->Int->Int}
section
variable{a b:Expr}{t t' tb:TE}
theorem PE.imp(h:PE X e t)(i:∀σ H Q,t' σ H Q->t σ H Q):PE X e t':=λpins s σ H Q I q=>h pins s σ H Q I (i σ H Q q)
theorem PT.imp{t t':TT}(h:PT X e t)(i:∀σ H Q,t' σ H Q->t σ H Q):PT X e t':=λpins s σ H Q I q=>h pins s σ H Q I (i σ H Q q)
theorem OpR.imp{r r':R2}(h:OpR X f r)(i:∀x y H Q,r' x y H Q->r x y H Q):OpR X f r':=λpins s σ H x y v u Q I rx ry q=>h pins s σ H x y v u Q I rx ry (i x y H Q q)
theorem cL.imp{f:Value}{r r':List V->Hp->VK->Prop}(h:cL X f r)(i:∀xs H Q,r' xs H Q->r xs H Q):cL X f r':=λpins s σ H xs us Q I rx q=>h pins s σ H xs us Q I rx (i xs H Q q)
def Lf(K:Pi):R2:=λx y H Q=>match x,y with
 |.int i,.int j=>Q (.int (i+j)) H
 |.str i,.str j=>i.length+j.length<=Pt/\Q (.str (i++j)) H
 |.ref _,.ref _=>L' x y H Q\/Ib K x y H Q
 |_,_=>False
theorem Gs(K:Pi)(hK:X.K=K):OpR X (QD .Add) (Lf K):=by
 subst hK;refine(IR.or (Ak.or (J9.or Gi))).imp λx y H Q h=>?_;cases x <;> cases y <;> first
  |exact .inl ⟨_,_,rfl,rfl,h⟩
  |exact .inr (.inl ⟨_,_,rfl,rfl,h.1,h.2⟩)
  |exact .inr (.inr h)
  |exact h.elim
def uR(C:Int->Int->Prop)(f:Int->Int->Int):R2:=λx y H Q=>match x,y with
 |.int i,.int j=>C i j/\Q (.int (f i j)) H
 |_,_=>False
def DY(f:Int->Int->Int):R2:=λx y H Q=>match x,y with
 |.int i,.int j=>Q (.int (f i j)) H
 |_,_=>False
theorem qR{C:Int->Int->Prop}(h:OpR X f (rI C λi j=>.int (g i j))):OpR X f (uR C g):=
 h.imp λx y H Q q=>by cases x <;> cases y <;> first|exact⟨_,_,rfl,rfl,q.1,q.2⟩|exact q.elim
theorem DZ(h:OpR X f (rI0 λi j=>.int (g i j))):OpR X f (DY g):=
 h.imp λx y H Q q=>by cases x <;> cases y <;> first|exact⟨_,_,rfl,rfl,q⟩|exact q.elim
theorem Gu:OpR X (QD .Sub) (DY λi j=>i-j):=DZ IS
theorem Gv:OpR X (QD .Mult) (uR yJ λi j=>i*j):=qR IT
theorem Gw:OpR X (QD .FloorDiv) (uR DA λi j=>i/j):=qR G7
theorem Gx:OpR X (QD .Mod) (uR (λ_ j=>0<j) λi j=>i%j):=qR IU
theorem Gy:OpR X (QD .Pow) (uR Cg λi j=>i ^ j.toNat):=qR IV
def yS(f:Int->Int->Bool)(g:List Nat->List Nat->Bool):R2:=λx y H Q=>match x,y with
 |.int i,.int j=>Q (.bl (f i j)) H
 |.str i,.str j=>Q (.bl (g i.cps.toList j.cps.toList)) H
 |_,_=>False
theorem wD{p:Int->Int->Bool}{g:List Nat->List Nat->Bool}(h1:OpR X f (rI0 λi j=>.bl (p i j)))(h2:OpR X f (λx y H Q=>∃i j,x=.str i/\y=.str j/\Q (.bl (g i.cps.toList j.cps.toList)) H)):OpR X f (yS p g):=
 (h1.or h2).imp λx y H Q q=>by cases x <;> cases y <;> first|exact .inl ⟨_,_,rfl,rfl,q⟩|exact .inr ⟨_,_,rfl,rfl,q⟩|exact q.elim
theorem Jf:OpR X (P4 .Lt) (yS (λi j=>decide (i<j)) λi j=>decide (i<j)):=wD KY Ci
theorem Jg:OpR X (P4 .Gt) (yS (λi j=>decide (j<i)) λi j=>decide (j<i)):=wD L0 λpins s σ H x y v u Q I rx ry h=>by
 obtain⟨i,j,rfl,rfl,q⟩:=h;obtain⟨t,rfl⟩:=rx;obtain⟨t',rfl⟩:=ry;exact PySem.P.gt_str (vV I q rfl)
theorem Jh:OpR X (P4 .LtE) (yS (λi j=>decide (i<=j)) λi j=>!decide (j<i)):=wD KZ λpins s σ H x y v u Q I rx ry h=>by
 obtain⟨i,j,rfl,rfl,q⟩:=h;obtain⟨t,rfl⟩:=rx;obtain⟨t',rfl⟩:=ry;exact PySem.P.le_str (vV I q rfl)
end
variable{ta:TE}{vs:List V}
section
variable{a b:Expr}{t t' tb:TE}
theorem Lg{x:V}{Q:Bool->Prop}(h:match x with|.bl c=>Q c|_=>False):∃c,x=.bl c/\Q c:=by
 cases x <;> first|exact⟨_,rfl,h⟩|exact h.elim
def NH(ta tb:TE):TE:=λσ H Q=>ta σ H λx H1=>match x with
 |.bl c=>if c=true then tb σ H1 Q else Q (.bl false) H1
 |_=>False
theorem Gz{rest:List Expr}(ha:PE X a ta)(hb:PE X (.BoolOp .And (b::rest) pos) tb):PE X (.BoolOp .And (a::b::rest) pos) (NH ta tb):=by
 intro pins s σ H Q I h;refine BoolOp_and (thn (ha pins s σ H _ I h) λv s1 hz=>?_);obtain⟨x,H1,I1,r1,q1⟩:=hz;obtain⟨c,rfl,q1⟩:=Lg q1;cases r1
 refine RP ?_;cases c with
 |true=>exact hb pins s1 σ H1 Q I1 q1
 |false=>exact⟨.bl false,H1,I1,rfl,q1⟩
theorem GA(hu:X.A.units+1<cLine):IxR X (λx y H Q=>∃p v,x=.ref p/\kX H p y (some v)/\Q v H):=by
 intro value slice pins s σ H x y v u Q I rx ry h hs;obtain⟨p,w,rfl,g,q⟩:=h;cases rx
 have hT:=yQ I g;unfold subscriptTail;refine Pf ?_;rw[getitemInPython_of_ne hT.not_modules];refine Pf (wpAny_specialOf hT PySem.F.slot_dict_getitem.lookup ?_);have fin:wpAny (model X.prog X.w) X.A (subscripted slice false (.ref p) u) (λr s₃=>wpAny (model X.prog X.w) X.A (letTemporaryGo value (.ref p) r >>= λ_=>pure r) (EP X pins σ Q) X.xe s₃) X.xe s:=by
  rw[hs];exact wpAny_operating (Cv hu I g ry λw' s3 I3 cw=>Pf (wpAny_letTemporaryGo (Ph ⟨w,H,I3,cw,q⟩)))
 first
  |exact Ph (Pf fin)
  |exact Pf (Ph (Pf fin))
  |exact Pf fin
def Lh(K:Pi):R2:=λx y H Q=>match x with
 |.str z=>(match y with
  |.int i=>z.length<=Pt/\∃c,atI z.cps.toList i=some c/\Q (.str ⟨#[c]⟩) H
  |_=>False)
 |.ref p=>(∃xs i v,y=.int i/\(SqL K H p xs\/SqT K H p xs)/\atI xs i=some v/\Q v H)\/∃v,kX H p y (some v)/\Q v H
 |_=>False
theorem IxR.imp{r r':R2}(h:IxR X r)(i:∀x y H Q,r' x y H Q->r x y H Q):IxR X r':=λa b pins s σ H x y v u Q I rx ry q hs=>h a b pins s σ H x y v u Q I rx ry (i x y H Q q) hs
theorem ixC(hu:X.A.units+1<cLine)(K:Pi)(hK:X.K=K):IxR X (Lh K):=by
 subst hK;refine(Gj.or (J5.or (J6.or (GA hu)))).imp λx y H Q h=>?_;cases x with
 |str z=>
  cases y with
  |int i=>obtain⟨h1,c,h2,h3⟩:=h;exact .inr (.inr (.inl ⟨z,i,c,rfl,rfl,h1,h2,h3⟩))
  |_=>exact h.elim
 |ref p=>
  rcases h with⟨xs,i,v,rfl,hs|hs,ha,hq⟩|⟨v,g,hq⟩
  ·exact .inl ⟨p,xs,i,v,rfl,rfl,hs,ha,hq⟩
  ·exact .inr (.inl ⟨p,xs,i,v,rfl,rfl,hs,ha,hq⟩)
  ·exact .inr (.inr (.inr ⟨p,v,rfl,g,hq⟩))
 |_=>exact h.elim
theorem Ji(hu:X.A.units+1<cLine)(K:Pi)(hK:X.K=K):OpR X (P4 .In) (λx y H Q=>rIn K false x y H Q\/∃a o,y=.ref a/\kX H a x o/\Q (.bl o.isSome) H):=by
 subst hK;refine Cs.or λpins s σ H x y v u Q I rx ry h=>?_;obtain⟨a,o,rfl,g,q⟩:=h;cases ry
 exact NG hu I g rx λs' I'=>⟨.bl o.isSome,H,I',rfl,q⟩
theorem CA(hu:X.A.units+1<cLine)(K:Pi)(hK:X.K=K):OpR X (P4 .NotIn) (λx y H Q=>rIn K true x y H Q\/∃a o,y=.ref a/\kX H a x o/\Q (.bl (!o.isSome)) H):=by
 subst hK;refine vZ.or λpins s σ H x y v u Q I rx ry h=>?_;obtain⟨a,o,rfl,g,q⟩:=h;cases ry
 exact Gm hu I g rx λs' I'=>⟨.bl (!o.isSome),H,I',rfl,q⟩
def Li(K:Pi):List V->Hp->VK->Prop:=λxs H Q=>match xs with
 |[.str y]=>y.length<=Pt/\Q (.int y.length) H
 |[.ref p]=>(∃xs,(SqL K H p xs\/SqT K H p xs)/\Q (.int xs.length) H)\/∃kvs,H p=some (.dK kvs)/\Q (.int kvs.length) H
 |_=>False
theorem CB(K:Pi)(hK:X.K=K):cL X (.builtin "len") (Li K):=by
 subst hK;intro pins s σ H xs us Q I r h
 match xs,h with
 |[.str y],h=>exact DG pins s σ H _ us Q I r ⟨_,_,rfl,⟨h.1,rfl⟩,h.2⟩
 |[.ref p],h=>
  rcases h with⟨ys,hs,q⟩|⟨kvs,hs,q⟩
  ·exact wA pins s σ H _ us Q I r ⟨p,ys,rfl,hs,q⟩
  ·exact Cy pins s σ H _ us Q I r ⟨p,kvs,rfl,hs,q⟩
def Lj:List V->Hp->VK->Prop:=λxs H Q=>match xs with
 |[.int i,.int j]=>Q (.int (if j>i then j else i)) H
 |_=>False
theorem CC(hc:X.calm=true):cL X (.builtin "max") Lj:=(Cj hc).imp λxs H Q h=>by
 match xs,h with
 |[.int i,.int j],h=>exact⟨i,j,rfl,h⟩
theorem Ax(K:Pi)(hK:X.K=K):cL X (.type "list") (λxs H Q=>∃p ys,xs=[.ref p]/\(SqL K H p ys\/SqT K H p ys)/\∀l,H l=none->Q (.ref l) (upd H l (.lst ys))):=by subst hK;exact wB
theorem yT(K:Pi)(hK:X.K=K):cL X (.type "tuple") (λxs H Q=>∃p ys,xs=[.ref p]/\((SqL K H p ys/\∀l,H l=none->Q (.ref l) (upd H l (.tup ys)))\/(SqT K H p ys/\Q (.ref p) H))):=by subst hK;exact tX
def Lk(ta:TA):TI:=λσ H R=>ta σ H λvs H1=>match vs with
 |[.int j]=>(-(2 ^ 62)<=j/\j<2 ^ 62)/\R (Itr 0 j.toNat) H1
 |_=>False
theorem GB{Q:Int->Prop}(h:match vs with|[.int i]=>Q i|_=>False):∃i,vs=[.int i]/\Q i:=by
 split at h
 · exact⟨_,rfl,h⟩
 · exact h.elim
theorem pr1{x:Expr}{ta:TA}{p:Pos}(hg:Gl X "range")(hm:X.mg "range" = none)(ha:PA X [x] ta)(hs:PJ [x] X.env=[(false,eval x X.env)]:=by rfl):PI X tg (.Call (.Name "range" p) [x] [] pos) (Lk ta):=by
 intro pins s σ H R I h;refine Call_ (kR I hg hm boot_range (Sg (thn (ha pos pins s σ H _ I h) λus s1 hz=>?_) hs rfl));obtain⟨vs,H1,I1,r1,q1⟩:=hz;obtain⟨j,rfl,⟨h1,h2⟩,q⟩:=GB q1;obtain⟨u,rfl,t,rfl⟩:=vals1 r1;exact call_range_1 (Dz I1 (by omega) (by omega) h1 h2 (by simpa using q))
def Ll(t:TE):TO:=λσ H Q=>t σ H λx H1=>match x with
 |.int i=>Q (some i) H1
 |_=>False
theorem E1{x:Expr}(h:PE X x te):PO X (some x) (Ll te):=by
 intro pins s σ H Q I hw;rw[evalPart_some];refine thn (h pins s σ H _ I hw) λu s1 hz=>?_;obtain⟨x,H1,I1,r1,q1⟩:=hz;cases x with
 |int i=>
  obtain⟨t,rfl⟩:=r1;exact⟨some i,H1,I1,.int i t,q1⟩
 |_=>exact q1.elim
end
structure Def(K:Pi)(mg:Str->Option Value)(x:Str)(st:Stmt)(f:Addr)(fd:Rc)(ps:List Str):Prop where
 fn:Fun K x x st f fd
 mg:mg x=some (.ref f)
 bd:Binds K fd ps []
theorem Lm{f:Addr}{k:Nat}{t:TA}{p:Pos}(D:Def X.K X.mg x st f fd ps)(G:bV X.prog X.w X.K X.mg X.base CX0 k f fd ps sp)(hr:dM k X.A)(ha:PA X (e::es) t)(hg:Gl X x:=by rfl)(bq:(x == ("__debug__" : Str))=false:=by decide)(he:PJ (e::es) X.env=(false,eval e X.env)::PJ es X.env:=by rfl)(bw:(backTo pos (PJ es X.env)).any (·.1)=false:=by rfl):
  PE X (.Call (.Name x p) (e::es) [] pos) (DK sp [] E0 t):=Ge G hr hg D.mg D.fn.kp D.bd .nil yN ha bq he bw
theorem Jj{α:Type}{xs:List α}{i:Int}(h0:0<=i)(h1:i<xs.length):∃v,atI xs i=some v/\xs[i.toNat]?=some v:=by
 have h2:i.toNat<xs.length:=by omega
 refine⟨xs[i.toNat],?_,by simp[h2]⟩;unfold atI ixN;rw[if_pos h0,if_pos h1];simp[h2]
theorem bQ{α:Type}{xs:List α}{v:α}(h:xs[i]?=some v):atI xs (i:Int)=some v:=by
 have h1:=(Pg.mp h).1;unfold atI ixN;rw[if_pos (by omega),if_pos (by omega)];simpa using h
theorem DT.upd{o:HO}(h:H a=none):DT H (upd H a o):=λb u e=>by
 rw[aE (cB e h)];exact e
theorem Def.mk'{h:Heap}{f:Addr}{oc:Value}{kV:Value}(X:K.In h)(G:h.Ns Qz mg)(a:SY K Qz x=some (some (.ref f)))(l:K.lookup f=some ⟨oc,od,.func (Ra x x (dN st) (bP st) (aM st) .none kV doc pm an cdv ct),osl⟩)(c:SX K cdv x=true)(k:Rh K (.ref f)=true)(b:∀(kV doc pm:Value)(an:Option Addr)(cdv ct:Value)(us:List Value),us.length=ps.length->bindArgs (Ra x x (dN st) (bP st) (aM st) .none kV doc pm an cdv ct) ⟨us,[]⟩=pure (ps.zip us)):
  Def K mg x st f (Ra x x (dN st) (bP st) (aM st) .none kV doc pm an cdv ct) ps:=
 ⟨Av l c k,R6 X G a,(Av (st:=st) l c k).binds b⟩
open PySem PySem.Spec PyProof.Rows PySem.SeqAt
inductive D where
 |non|bl (b:Bool)|int (i:Int)|str (x:Str)|tup (xs:List D)
mutual
def D.depth:D->Nat
 |.tup xs=>D.depths xs+1
 |_=>0
def D.depths:List D->Nat
 |[]=>0
 |x::xs=>max (D.depth x) (D.depths xs)
end
theorem D.depths_le:∀{xs:List D}{i:Nat}{d:D},xs[i]?=some d->d.depth<=D.depths xs
 |[],_,_,h=>by simp at h
 |x::xs,0,d,h=>by
  have:x=d:=by simpa using h
  subst this
  show x.depth<=max x.depth (D.depths xs)
  omega
 |x::xs,i+1,d,h=>by
  have:=D.depths_le (xs:=xs) (i:=i) (d:=d) (by simpa using h)
  show d.depth<=max x.depth (D.depths xs)
  omega
mutual
/-- the value x is the datum,in the heap H -/
def Rep(K:Pi)(H:Hp):D->V->Prop
 |.non,v=>v=.non
 |.bl b,v=>v=.bl b
 |.int i,v=>v=.int i
 |.str x,v=>v=.str x
 |.tup ds,v=>∃a vs,v=.ref a/\SqT K H a vs/\eQ K H ds vs
def eQ(K:Pi)(H:Hp):List D->List V->Prop
 |[],[]=>True
 |d::ds,v::vs=>Rep K H d v/\eQ K H ds vs
 |[],_::_=>False
 |_::_,[]=>False
end
mutual
/-- == -/
def eqD:D->D->Bool
 |.non,.non=>true
 |.bl a,.bl b=>a == b
 |.bl a,.int b=>(if a then 1 else 0) == b
 |.int a,.bl b=>a == (if b then 1 else 0)
 |.int a,.int b=>a == b
 |.str a,.str b=>a == b
 |.tup xs,.tup ys=>eY xs ys
 |_,_=>false
def eY:List D->List D->Bool
 |[],[]=>true
 |x::xs,y::ys=>eqD x y&&eY xs ys
 |[],_::_=>false
 |_::_,[]=>false
end
mutual
/-- < (none: an error) -/
def ltD:D->D->Option Bool
 |.int a,.int b=>some (decide (a<b))
 |.str a,.str b=>some (decide (a.cps.toList<b.cps.toList))
 |.tup xs,.tup ys=>mR xs ys
 |_,_=>none
def mR:List D->List D->Option Bool
 |[],[]=>some false
 |[],_::_=>some true
 |_::_,[]=>some false
 |x::xs,y::ys=>if eqD x y=true then mR xs ys else ltD x y
end
mutual
theorem rO:∀d:D,eqD d d=true
 |.non=>rfl
 |.bl b=>by simp[eqD]
 |.int i=>by simp[eqD]
 |.str x=>by simp[eqD]
 |.tup xs=>by simp only[eqD];exact uS xs
theorem uS:∀ds:List D,eY ds ds=true
 |[]=>rfl
 |d::ds=>by simp only[eY,rO d,uS ds,Bool.and_self]
end
def jA(H H':Hp):Prop:=∀a xs,Rd H a (.tup xs)->Rd H' a (.tup xs)
theorem jA.refl(H:Hp):jA H H:=λ_ _ h=>h
variable{H1 H2:Hp}
theorem jA.trans(a:jA H H1)(b:jA H1 H2):jA H H2:=λc xs h=>b c xs (a c xs h)
theorem jA.same(s:DT H H'):jA H H':=λa xs h=>by
 rcases h with h|⟨o,h⟩
 ·exact .inl (s _ _ h)
 ·exact .inr ⟨o,s _ _ h⟩
def pZ:Option HO->Prop
 |some (.tup _)=>False
 |some (.frz _ _)=>False
 |_=>True
theorem jA.upd{p:Addr}{o:HO}(h:pZ (H p)):jA H (upd H p o):=λa xs q=>by
 have ne:a≠p:=by
  rintro rfl;rcases q with q|⟨ob,q⟩
  ·rw[q]at h;exact h
  ·rw[q]at h;exact h
 rcases q with q|⟨ob,q⟩
 ·exact .inl (by rw[aE ne];exact q)
 ·exact .inr ⟨ob,by rw[aE ne];exact q⟩
theorem jA.sq{xs:List V}(t:jA H H')(h:SqT K H a xs):SqT K H' a xs:=by
 rcases h with h|h
 ·exact .inl (t a xs h)
 ·exact .inr h
theorem eQ.length:∀{ds:List D}{vs:List V},eQ K H ds vs->ds.length=vs.length
 |[],[],_=>rfl
 |_::_,_::_,⟨_,r⟩=>by simp[eQ.length r]
 |[],_::_,h=>h.elim
 |_::_,[],h=>h.elim
theorem eQ.get:∀{ds:List D}{vs:List V}{i:Nat}{v:V},eQ K H ds vs->vs[i]?=some v->∃d,ds[i]?=some d/\Rep K H d v
 |[],[],_,_,_,e=>by simp at e
 |d::_,w::_,0,v,⟨h,_⟩,e=>by
  have:w=v:=by simpa using e
  subst this;exact⟨d,rfl,h⟩
 |_::ds,_::vs,i+1,v,⟨_,r⟩,e=>by
  obtain⟨d,h1,h2⟩:=eQ.get (ds:=ds) (vs:=vs) (i:=i) (v:=v) r (by simpa using e)
  exact⟨d,by simpa using h1,h2⟩
 |[],_::_,_,_,h,_=>h.elim
 |_::_,[],_,_,h,_=>h.elim
theorem eQ.at:∀{ds:List D}{vs:List V}{i:Nat}{d:D},eQ K H ds vs->ds[i]?=some d->∃v,vs[i]?=some v/\Rep K H d v
 |[],[],_,_,_,e=>by simp at e
 |d::_,w::_,0,d',⟨h,_⟩,e=>by
  have:d=d':=by simpa using e
  subst this;exact⟨w,rfl,h⟩
 |_::ds,_::vs,i+1,d,⟨_,r⟩,e=>by
  obtain⟨v,h1,h2⟩:=eQ.at (ds:=ds) (vs:=vs) (i:=i) (d:=d) r (by simpa using e)
  exact⟨v,by simpa using h1,h2⟩
 |[],_::_,_,_,h,_=>h.elim
 |_::_,[],_,_,h,_=>h.elim
variable{b:Bool}{its its':List Value}{jo:List V}
section
theorem iA{v:Value}(h:RcAt A s v u b)(hs:v=u->b=true)(hf:∀f t,v≠.float f t):EqAt A s v u b:=λprog w E Q hq=>by
 unfold eqBool;refine Rq ?_;refine wpAny_ite_split (λz8=>?_) (λ_=>?_)
 ·have e:=hs (eq_of_beq z8);subst e;exact Pf (SR (Ph hq))
 ·cases v <;> first|exact absurd rfl (hf _ _)|exact Pf (h prog w E _ (RP hq))|(cases u <;> exact Pf (h prog w E _ (RP hq)))
theorem uT{d:D}{x:V}{v:Value}(h:Rep K H d x)(r:RelV x v):∀f t,v≠.float f t:=λf t e=>by
 subst e;cases d with
 |non=>cases h;cases r
 |bl b=>cases h;cases r
 |int b=>cases h;obtain⟨_,z⟩:=r;cases z
 |str b=>cases h;obtain⟨_,z⟩:=r;cases z
 |tup ds=>obtain⟨_,_,rfl,_⟩:=h;cases r
theorem qS(I:Inv X pins σ H s):∀(n:Nat)(d e:D)(v:V),d.depth<=n->Rep X.K H d v->Rep X.K H e v->d=e
 |n,.non,e,v,_,h,h'=>by
  cases h
  cases e <;> first|(obtain⟨_,_,z,_⟩:=h';exact absurd z (by intro q;cases q))|rfl|exact absurd h' (by intro z;cases z)
 |n,.bl b,e,v,_,h,h'=>by
  cases h
  cases e <;> first|(obtain⟨_,_,z,_⟩:=h';exact absurd z (by intro q;cases q))|(cases h';rfl)|exact absurd h' (by intro z;cases z)
 |n,.int i,e,v,_,h,h'=>by
  cases h
  cases e <;> first|(obtain⟨_,_,z,_⟩:=h';exact absurd z (by intro q;cases q))|(cases h';rfl)|exact absurd h' (by intro z;cases z)
 |n,.str x,e,v,_,h,h'=>by
  cases h
  cases e <;> first|(obtain⟨_,_,z,_⟩:=h';exact absurd z (by intro q;cases q))|(cases h';rfl)|exact absurd h' (by intro z;cases z)
 |0,.tup ds,e,v,hd,h,h'=>absurd hd (by show ¬ D.depths ds+1<=0;omega)
 |n+1,.tup ds,e,v,hd,h,h'=>by
  obtain⟨a,vs,rfl,q,r⟩:=h;cases e with
  |tup es=>
   obtain⟨a',jo,ea,q',r'⟩:=h';cases ea
   have:=I.tuple_inj q q';subst this;have dq:D.depths ds+1<=n+1:=hd;have:ds=es:=by
    apply Rt;intro i;cases hi:ds[i]? with
    |none=>
     have h1:=r.length;have h2:=r'.length;have:ds.length<=i:=List.getElem?_eq_none_iff.mp hi;exact(List.getElem?_eq_none_iff.mpr (by omega)).symm
    |some d=>
     obtain⟨v,hv,hr⟩:=r.at hi;obtain⟨e,he,o1⟩:=r'.get hv;rw[he,qS I n d e v (by have:=D.depths_le hi;omega) hr o1]
   rw[this]
  |_=>cases h'
theorem mS{xs ys:List D}:((Qb (min xs.length ys.length)).all (λj=>match xs[j]?,ys[j]? with|some x,some y=>eqD x y|_,_=>false)&&xs.length == ys.length)=eY xs ys:=by
 induction xs generalizing ys with
 |nil=>
  cases ys with
  |nil=>rfl
  |cons y ys=>simp[eY]
 |cons x xs ih=>
  cases ys with
  |nil=>simp[eY]
  |cons y ys=>
   have:=ih (ys:=ys);have e:min (x::xs).length (y::ys).length=min xs.length ys.length+1:=by simp only[Qs];omega
   rw[e,List.range_succ_eq_map,RC,List.all_map];simp only[List.getElem?_cons_zero,Function.comp_def,Q5,Qs,eY];rw[<-this];have e2:(xs.length+1 == ys.length+1)=(xs.length == ys.length):=by simp
   rw[e2,Bool.and_assoc]
theorem Ln(I:Inv X pins σ H s):∀(n:Nat)(d e:D)(A:Around)(x y:V)(v u:Value),d.depth<=n->A.units+n<cLine->Rep X.K H d x->Rep X.K H e y->RelV x v->RelV y u->RcAt A s v u (eqD d e):=by
 intro n
 induction n with
 |zero=>
  intro d e A x y v u hd hu hx hy rx ry;cases d with
  |tup ds=>exact absurd hd (by show ¬ D.depths ds+1<=0;omega)
  |non=>
   cases hx;cases rx;cases e with
   |non=>cases hy;cases ry;exact RcAt.none_none
   |bl b=>cases hy;cases ry;exact RcAt.none_bool b
   |int b=>cases hy;obtain⟨t,rfl⟩:=ry;exact RcAt.none_int b t
   |str b=>cases hy;obtain⟨t,rfl⟩:=ry;exact RcAt.none_str b t
   |tup es=>obtain⟨a,vs,rfl,q,r⟩:=hy;cases ry;obtain⟨its,_,p,_⟩:=I.tuple q;exact RcAt.none_tuple p (by omega)
  |bl a=>
   cases hx;cases rx;cases e with
   |non=>cases hy;cases ry;exact RcAt.bool_none a
   |bl b=>cases hy;cases ry;exact RcAt.bool_bool a b
   |int b=>cases hy;obtain⟨t,rfl⟩:=ry;exact RcAt.bool_int a b t
   |str b=>cases hy;obtain⟨t,rfl⟩:=ry;exact RcAt.bool_str a b t
   |tup es=>obtain⟨a',vs,rfl,q,r⟩:=hy;cases ry;obtain⟨its,_,p,_⟩:=I.tuple q;exact RcAt.bool_tuple a p (by omega)
  |int a=>
   cases hx;obtain⟨t',rfl⟩:=rx;cases e with
   |non=>cases hy;cases ry;exact RcAt.int_none a t'
   |bl b=>cases hy;cases ry;exact RcAt.int_bool a t' b
   |int b=>cases hy;obtain⟨t,rfl⟩:=ry;exact RcAt.int_int a t' b t
   |str b=>cases hy;obtain⟨t,rfl⟩:=ry;exact RcAt.int_str a t' b t
   |tup es=>obtain⟨a',vs,rfl,q,r⟩:=hy;cases ry;obtain⟨its,_,p,_⟩:=I.tuple q;exact RcAt.int_tuple a t' p (by omega)
  |str a=>
   cases hx;obtain⟨t',rfl⟩:=rx;cases e with
   |non=>cases hy;cases ry;exact RcAt.str_none a t'
   |bl b=>cases hy;cases ry;exact RcAt.str_bool a t' b
   |int b=>cases hy;obtain⟨t,rfl⟩:=ry;exact RcAt.str_int a t' b t
   |str b=>cases hy;obtain⟨t,rfl⟩:=ry;exact RcAt.str_str a t' b t
   |tup es=>obtain⟨a',vs,rfl,q,r⟩:=hy;cases ry;obtain⟨its,_,p,_⟩:=I.tuple q;exact RcAt.str_tuple a t' p (by omega)
 |succ n ih=>
  intro d e A x y v u hd hu hx hy rx ry
  by_cases h0:d.depth<=n
  ·exact ih d e A x y v u h0 (by omega) hx hy rx ry
  ·cases d with
   |non=>exact absurd (show D.depth .non<=n from P8 n) h0
   |bl b=>exact absurd (show D.depth (.bl b)<=n from P8 n) h0
   |int b=>exact absurd (show D.depth (.int b)<=n from P8 n) h0
   |str b=>exact absurd (show D.depth (.str b)<=n from P8 n) h0
   |tup ds=>
    have jv:D.depths ds<=n:=by have:D.depths ds+1<=n+1:=hd;omega
    obtain⟨a,vs,rfl,q,r⟩:=hx;cases rx
    obtain⟨its,rv,p,_⟩:=I.tuple q;cases e with
    |non=>cases hy;cases ry;exact RcAt.tuple_none p (by omega)
    |bl b=>cases hy;cases ry;exact RcAt.tuple_bool b p (by omega)
    |int b=>cases hy;obtain⟨t,rfl⟩:=ry;exact RcAt.tuple_int b t p (by omega)
    |str b=>cases hy;obtain⟨t,rfl⟩:=ry;exact RcAt.tuple_str b t p (by omega)
    |tup es=>
     obtain⟨a',jo,rfl,q',r'⟩:=hy;cases ry
     obtain⟨its',az,p',_⟩:=I.tuple q';have l1:=r.length;have l2:=r'.length;have l3:=rv.length;have l4:=az.length;have key:=RcAt.tuples (A:=A) (e:=λj=>match ds[j]?,es[j]? with|some x,some y=>eqD x y|_,_=>false) p p' (by omega) (λj h1 h2=>by
      have ie:j<ds.length:=by simp at h1;omega
      have d8:j<es.length:=by simp at h2;omega
      have g1:ds[j]?=some ds[j]:=by simp[ie]
      have g2:es[j]?=some es[j]:=by simp[d8]
      obtain⟨xv,ka,ic⟩:=r.at g1;obtain⟨yv,jz,i9⟩:=r'.at g2;obtain⟨xu,i8,cu⟩:=rv.get ka;obtain⟨yu,iw,bt⟩:=az.get jz;have e1:its.toArray[j]=xu:=by
       have:its[j]?=some xu:=i8;simpa using(Pg.mp this).2
      have e2:its'.toArray[j]=yu:=by
       have:its'[j]?=some yu:=iw;simpa using(Pg.mp this).2
      rw[e1,e2];simp only[g1,g2];have uw:=D.depths_le g1;refine iA (ih ds[j] es[j] A.in1 xv yv xu yu (by omega) (by show A.units+1+n<cLine;omega) ic i9 cu bt) (λev=>by
      subst ev;have sg:xv=yv:=RelV.inj cu bt;subst sg;rw[qS I n ds[j] es[j] xv (by omega) ic i9];exact rO _) (uT ic cu))
     have sz:((Qb (min its.toArray.size its'.toArray.size)).all (λj=>match ds[j]?,es[j]? with|some x,some y=>eqD x y|_,_=>false)&&its.toArray.size == its'.toArray.size)=eqD (.tup ds) (.tup es):=by
      have a1:its.toArray.size=ds.length:=by simp;omega
      have a2:its'.toArray.size=es.length:=by simp;omega
      rw[a1,a2];simp only[eqD];exact mS
     rw[<-sz];exact key
theorem GC(I:Inv X pins σ H s){d e:D}{x:V}{v:Value}(hd:d.depth<=n)(hu:A.units+n<cLine)(hx:Rep X.K H d x)(hy:Rep X.K H e y)(rx:RelV x v)(ry:RelV y u):EqAt A s v u (eqD d e):=
 iA (Ln I n d e A x y v u hd hu hx hy rx ry) (λev=>by
  subst ev;have sg:x=y:=RelV.inj rx ry;subst sg;rw[qS I n d e x hd hx hy];exact rO _) (uT hx rx)
theorem Jk(I:Inv X pins σ H s):∀(n:Nat)(d e:D)(A:Around)(x y:V)(v u:Value),d.depth<=n->A.units+n<cLine->Rep X.K H d x->Rep X.K H e y->RelV x v->RelV y u->RcNeAt A s v u (!eqD d e):=by
 intro n
 induction n with
 |zero=>
  intro d e A x y v u hd hu hx hy rx ry;cases d with
  |tup ds=>exact absurd hd (by show ¬ D.depths ds+1<=0;omega)
  |non=>
   cases hx;cases rx;cases e with
   |non=>cases hy;cases ry;exact RcNeAt.none_none
   |bl b=>cases hy;cases ry;exact RcNeAt.none_bool b
   |int b=>cases hy;obtain⟨t,rfl⟩:=ry;exact RcNeAt.none_int b t
   |str b=>cases hy;obtain⟨t,rfl⟩:=ry;exact RcNeAt.none_str b t
   |tup es=>obtain⟨a,vs,rfl,q,r⟩:=hy;cases ry;obtain⟨its,_,p,_⟩:=I.tuple q;exact RcNeAt.none_tuple p (by omega)
  |bl a=>
   cases hx;cases rx;cases e with
   |non=>cases hy;cases ry;exact RcNeAt.bool_none a
   |bl b=>cases hy;cases ry;exact RcNeAt.bool_bool a b
   |int b=>cases hy;obtain⟨t,rfl⟩:=ry;exact RcNeAt.bool_int a b t
   |str b=>cases hy;obtain⟨t,rfl⟩:=ry;exact RcNeAt.bool_str a b t
   |tup es=>obtain⟨a',vs,rfl,q,r⟩:=hy;cases ry;obtain⟨its,_,p,_⟩:=I.tuple q;exact RcNeAt.bool_tuple a p (by omega)
  |int a=>
   cases hx;obtain⟨t',rfl⟩:=rx;cases e with
   |non=>cases hy;cases ry;exact RcNeAt.int_none a t'
   |bl b=>cases hy;cases ry;exact RcNeAt.int_bool a t' b
   |int b=>cases hy;obtain⟨t,rfl⟩:=ry;exact RcNeAt.int_int a t' b t
   |str b=>cases hy;obtain⟨t,rfl⟩:=ry;exact RcNeAt.int_str a t' b t
   |tup es=>obtain⟨a',vs,rfl,q,r⟩:=hy;cases ry;obtain⟨its,_,p,_⟩:=I.tuple q;exact RcNeAt.int_tuple a t' p (by omega)
  |str a=>
   cases hx;obtain⟨t',rfl⟩:=rx;cases e with
   |non=>cases hy;cases ry;exact RcNeAt.str_none a t'
   |bl b=>cases hy;cases ry;exact RcNeAt.str_bool a t' b
   |int b=>cases hy;obtain⟨t,rfl⟩:=ry;exact RcNeAt.str_int a t' b t
   |str b=>cases hy;obtain⟨t,rfl⟩:=ry;exact RcNeAt.str_str a t' b t
   |tup es=>obtain⟨a',vs,rfl,q,r⟩:=hy;cases ry;obtain⟨its,_,p,_⟩:=I.tuple q;exact RcNeAt.str_tuple a t' p (by omega)
 |succ n ih=>
  intro d e A x y v u hd hu hx hy rx ry
  by_cases h0:d.depth<=n
  ·exact ih d e A x y v u h0 (by omega) hx hy rx ry
  ·cases d with
   |non=>exact absurd (show D.depth .non<=n from P8 n) h0
   |bl b=>exact absurd (show D.depth (.bl b)<=n from P8 n) h0
   |int b=>exact absurd (show D.depth (.int b)<=n from P8 n) h0
   |str b=>exact absurd (show D.depth (.str b)<=n from P8 n) h0
   |tup ds=>
    have jv:D.depths ds<=n:=by have:D.depths ds+1<=n+1:=hd;omega
    obtain⟨a,vs,rfl,q,r⟩:=hx;cases rx
    obtain⟨its,rv,p,_⟩:=I.tuple q;cases e with
    |non=>cases hy;cases ry;exact RcNeAt.tuple_none p (by omega)
    |bl b=>cases hy;cases ry;exact RcNeAt.tuple_bool b p (by omega)
    |int b=>cases hy;obtain⟨t,rfl⟩:=ry;exact RcNeAt.tuple_int b t p (by omega)
    |str b=>cases hy;obtain⟨t,rfl⟩:=ry;exact RcNeAt.tuple_str b t p (by omega)
    |tup es=>
     obtain⟨a',jo,rfl,q',r'⟩:=hy;cases ry
     obtain⟨its',az,p',_⟩:=I.tuple q';have l1:=r.length;have l2:=r'.length;have l3:=rv.length;have l4:=az.length;have key:=RcNeAt.tuples (A:=A) (e:=λj=>match ds[j]?,es[j]? with|some x,some y=>eqD x y|_,_=>false) p p' (by omega) (λj h1 h2=>by
      have ie:j<ds.length:=by simp at h1;omega
      have d8:j<es.length:=by simp at h2;omega
      have g1:ds[j]?=some ds[j]:=by simp[ie]
      have g2:es[j]?=some es[j]:=by simp[d8]
      obtain⟨xv,ka,ic⟩:=r.at g1;obtain⟨yv,jz,i9⟩:=r'.at g2;obtain⟨xu,i8,cu⟩:=rv.get ka;obtain⟨yu,iw,bt⟩:=az.get jz;have e1:its.toArray[j]=xu:=by
       have:its[j]?=some xu:=i8;simpa using(Pg.mp this).2
      have e2:its'.toArray[j]=yu:=by
       have:its'[j]?=some yu:=iw;simpa using(Pg.mp this).2
      rw[e1,e2];simp only[g1,g2];have uw:=D.depths_le g1;exact GC I (n:=n) (by omega) (by show A.units+1+n<cLine;omega) ic i9 cu bt)
     have sz:(!((Qb (min its.toArray.size its'.toArray.size)).all (λj=>match ds[j]?,es[j]? with|some x,some y=>eqD x y|_,_=>false)&&its.toArray.size == its'.toArray.size))=(!eqD (.tup ds) (.tup es)):=by
      have a1:its.toArray.size=ds.length:=by simp;omega
      have a2:its'.toArray.size=es.length:=by simp;omega
      rw[a1,a2];simp only[eqD];rw[mS]
     rw[<-sz];exact key
def NI(K:Pi):R2:=λx y H Q=>∃d e,Rep K H d x/\Rep K H e y/\d.depth<=40/\Q (.bl (eqD d e)) H
def NJ(K:Pi):R2:=λx y H Q=>∃d e,Rep K H d x/\Rep K H e y/\d.depth<=40/\Q (.bl (!eqD d e)) H
theorem Jl(hu:X.A.units+64<cLine)(K:Pi)(hK:X.K=K):OpR X (P4 .Eq) (NI K):=by
 subst hK;intro pins s σ H x y v u Q I rx ry h;obtain⟨d,e,hx,hy,hd,q⟩:=h;exact Ln I 40 d e X.A x y v u hd (by omega) hx hy rx ry X.prog X.w X.xe _ ⟨.bl _,H,I,rfl,q⟩
theorem Jm(hu:X.A.units+64<cLine)(K:Pi)(hK:X.K=K):OpR X (P4 .NotEq) (NJ K):=by
 subst hK;intro pins s σ H x y v u Q I rx ry h;obtain⟨d,e,hx,hy,hd,q⟩:=h;exact Jk I 40 d e X.A x y v u hd (by omega) hx hy rx ry X.prog X.w X.xe _ ⟨.bl _,H,I,rfl,q⟩
def CD(K:Pi)(H:Hp)(ds:List D)(v:V):Prop:=∃a vs,v=.ref a/\SqL K H a vs/\eQ K H ds vs
theorem uU{xs ys:List D}(h:xs.length=ys.length):(Qb xs.length).all (λj=>match xs[j]?,ys[j]? with|some x,some y=>eqD x y|_,_=>false)=eY xs ys:=by
 have:=mS (xs:=xs) (ys:=ys);rw[h,Nat.min_self,beq_self_eq_true,Bool.and_true]at this;rw[h];exact this
theorem yU{xs ys:List D}(h:eY xs ys=true):xs.length=ys.length:=by
 rw[<-mS,PF]at h;exact eq_of_beq h.2
theorem rP{I:Inv X pins σ H s}{ds es:List D}(r:eQ X.K H ds vs)(r':eQ X.K H es jo)(rv:aJ vs its)(az:aJ jo its')(hd:D.depths ds<=40)(hu:A.units+42<cLine):
  ∀j(h1:j<its.toArray.size)(h2:j<its'.toArray.size),EqAt A.in1 s its.toArray[j] its'.toArray[j] (match ds[j]?,es[j]? with|some x,some y=>eqD x y|_,_=>false):=λj h1 h2=>by
 have l1:=r.length;have l2:=r'.length;have l3:=rv.length;have l4:=az.length;have ie:j<ds.length:=by simp at h1;omega
 have d8:j<es.length:=by simp at h2;omega
 have g1:ds[j]?=some ds[j]:=by simp[ie]
 have g2:es[j]?=some es[j]:=by simp[d8]
 obtain⟨xv,ka,ic⟩:=r.at g1;obtain⟨yv,jz,i9⟩:=r'.at g2;obtain⟨xu,i8,cu⟩:=rv.get ka;obtain⟨yu,iw,bt⟩:=az.get jz;have e1:its.toArray[j]=xu:=by simpa using(Pg.mp i8).2
 have e2:its'.toArray[j]=yu:=by simpa using(Pg.mp iw).2
 rw[e1,e2];simp only[g1,g2];have uw:=D.depths_le g1;exact GC I (n:=40) (by omega) (by show A.units+1+40<cLine;omega) ic i9 cu bt
def NK(K:Pi):R2:=λx y H Q=>∃ds es,CD K H ds x/\CD K H es y/\D.depths ds<=40/\Q (.bl (eY ds es)) H
def NL(K:Pi):R2:=λx y H Q=>∃ds es,CD K H ds x/\CD K H es y/\D.depths ds<=40/\Q (.bl (!eY ds es)) H
theorem Jn(hu:X.A.units+64<cLine)(K:Pi)(hK:X.K=K):OpR X (P4 .Eq) (NK K):=by
 subst hK;intro pins s σ H x y v u Q I rx ry h;obtain⟨ds,es,⟨a,vs,rfl,q,r⟩,⟨b,jo,rfl,q',r'⟩,hd,k⟩:=h;cases rx;cases ry;obtain⟨its,rv,p,_⟩:=I.list q;obtain⟨its',az,p',_⟩:=I.list q';have l1:=r.length;have l2:=r'.length;have l3:=rv.length;have l4:=az.length
 by_cases hl:ds.length=es.length
 ·refine eq_listAt p.isList p'.isList (by simp;omega) (by omega) (rP (I:=I) r r' rv az hd (by omega)) ⟨.bl _,H,I,rfl,?_⟩;have e1:its.toArray.size=ds.length:=by simp;omega
  rw[e1,uU hl];exact k
 ·refine eq_list_lengthsAt p.isList p'.isList (by simp;omega) (by omega) ⟨.bl false,H,I,rfl,?_⟩;have e:eY ds es=false:=by
   cases h:eY ds es with
   |false=>rfl
   |true=>exact absurd (yU h) hl
  rw[e]at k;exact k
theorem Jo(hu:X.A.units+64<cLine)(K:Pi)(hK:X.K=K):OpR X (P4 .NotEq) (NL K):=by
 subst hK;intro pins s σ H x y v u Q I rx ry h;obtain⟨ds,es,⟨a,vs,rfl,q,r⟩,⟨b,jo,rfl,q',r'⟩,hd,k⟩:=h;cases rx;cases ry;obtain⟨its,rv,p,_⟩:=I.list q;obtain⟨its',az,p',_⟩:=I.list q';have l1:=r.length;have l2:=r'.length;have l3:=rv.length;have l4:=az.length
 by_cases hl:ds.length=es.length
 ·refine RcNeAt.lists p.isList p'.isList (by simp;omega) (by omega) (rP (I:=I) r r' rv az hd (by omega)) X.prog X.w X.xe _ ⟨.bl _,H,I,rfl,?_⟩;have e1:its.toArray.size=ds.length:=by simp;omega
  rw[e1,uU hl];exact k
 ·refine RcNeAt.lists_lengths p.isList p'.isList (by simp;omega) (by omega) X.prog X.w X.xe _ ⟨.bl true,H,I,rfl,?_⟩;have e:eY ds es=false:=by
   cases h:eY ds es with
   |false=>rfl
   |true=>exact absurd (yU h) hl
  rw[e]at k;exact k
def Lo(K:Pi)(neg:Bool):R2:=λx y H Q=>∃d p ds vs,y=.ref p/\(SqL K H p vs\/SqT K H p vs)/\Rep K H d x/\eQ K H ds vs/\D.depths ds<=40/\Q (.bl (if neg then !ds.any (λe=>eqD e d) else ds.any (λe=>eqD e d))) H
noncomputable def isD(K:Pi)(H:Hp)(d:D)(u:Value):Bool:=@decide (∃e x,RelV x u/\Rep K H e x/\e.depth<=40/\eqD e d=true) (Q6 _)
theorem E2(I:Inv X pins σ H s){d e:D}{x:V}(r:RelV x u)(h:Rep X.K H e x)(hd:e.depth<=40):isD X.K H d u=eqD e d:=by
 unfold isD;cases q:eqD e d with
 |true=>exact @decide_eq_true _ (Q6 _) ⟨e,x,r,h,hd,q⟩
 |false=>
  refine @decide_eq_false _ (Q6 _) ?_;rintro⟨e',x',r',h',dq,q'⟩;have ex:x'=x:=RelV.inj r' r;subst ex;rw[qS I 40 e' e x' dq h' h]at q';rw[q]at q';cases q'
theorem mT(I:Inv X pins σ H s){d:D}:∀{ds:List D}{vs:List V}{us:List Value},eQ X.K H ds vs->aJ vs us->D.depths ds<=40->us.any (isD X.K H d)=ds.any λe=>eqD e d
 |[],[],_,_,.nil,_=>rfl
 |e::ds,_::_,_,⟨h,r⟩,.cons rv je,hd=>by
  have h1:e.depth<=40/\D.depths ds<=40:=by
   have:max e.depth (D.depths ds)<=40:=hd;omega
  rw[R4,R4,E2 I rv h h1.1,mT I r je h1.2]
 |[],_::_,_,h,_,_=>h.elim
 |_::_,[],_,h,_,_=>h.elim
theorem mU(I:Inv X pins σ H s){A:Around}{d:D}{x:V}{v:Value}(hx:Rep X.K H d x)(rx:RelV x v)(hu:A.units+42<cLine):∀{ds:List D}{vs:List V}{us:List Value},eQ X.K H ds vs->aJ vs us->D.depths ds<=40->∀u∈us,EqAt A.in1 s u v (isD X.K H d u)
 |[],[],_,_,.nil,_=>λu hu=>by cases hu
 |e::ds,_::_,_,⟨h,r⟩,.cons rv je,hd=>λu hm=>by
  have h1:e.depth<=40/\D.depths ds<=40:=by
   have:max e.depth (D.depths ds)<=40:=hd;omega
  rcases PC.mp hm with rfl|hm
  ·rw[E2 I rv h h1.1];exact GC I (n:=40) h1.1 (by show A.units+1+40<cLine;omega) h hx rv rx
  ·exact mU I hx rx hu r je h1.2 u hm
 |[],_::_,_,h,_,_=>h.elim
 |_::_,[],_,h,_,_=>h.elim
theorem Jp(hu:X.A.units+64<cLine)(K:Pi)(hK:X.K=K):OpR X (P4 .In) (Lo K false):=by
 subst hK;intro pins s σ H x y v u Q I rx ry h;obtain⟨d,p,ds,vs,rfl,hq,hx,hr,hd,k⟩:=h;cases ry
 rcases hq with hq|hq
 ·obtain⟨its,r,pl,hz⟩:=I.list hq;refine SeqAt.in_listAt (isD X.K H d) pl.isList (λw hw=>mU I hx rx (by omega) hr r hd w (by simpa using hw)) ⟨.bl _,H,I,rfl,?_⟩
  rw[show its.toArray.any (isD X.K H d)=its.any (isD X.K H d) by simp,mT I hr r hd];exact k
 ·obtain⟨its,r,pl,hz⟩:=I.tuple hq;refine SeqAt.in_tupleAt (isD X.K H d) pl (λw hw=>mU I hx rx (by omega) hr r hd w (by simpa using hw)) ⟨.bl _,H,I,rfl,?_⟩
  rw[show its.toArray.any (isD X.K H d)=its.any (isD X.K H d) by simp,mT I hr r hd];exact k
theorem CF(hu:X.A.units+64<cLine)(K:Pi)(hK:X.K=K):OpR X (P4 .NotIn) (Lo K true):=by
 subst hK;intro pins s σ H x y v u Q I rx ry h;obtain⟨d,p,ds,vs,rfl,hq,hx,hr,hd,k⟩:=h;cases ry
 rcases hq with hq|hq
 ·obtain⟨its,r,pl,hz⟩:=I.list hq;refine SeqAt.notIn_listAt (isD X.K H d) pl.isList (λw hw=>mU I hx rx (by omega) hr r hd w (by simpa using hw)) ⟨.bl _,H,I,rfl,?_⟩
  rw[show its.toArray.any (isD X.K H d)=its.any (isD X.K H d) by simp,mT I hr r hd];exact k
 ·obtain⟨its,r,pl,hz⟩:=I.tuple hq;refine SeqAt.notIn_tupleAt (isD X.K H d) pl (λw hw=>mU I hx rx (by omega) hr r hd w (by simpa using hw)) ⟨.bl _,H,I,rfl,?_⟩
  rw[show its.toArray.any (isD X.K H d)=its.any (isD X.K H d) by simp,mT I hr r hd];exact k
end
open PySem
def keyLt:Sum Int Str->Sum Int Str->Bool
 |.inl a,.inl b=>decide (a<b)
 |.inr a,.inr b=>decide (a.cps.toList<b.cps.toList)
 |_,_=>false
def aN:List (Sum Int Str)->List (Sum Int Str)->Bool
 |[],[]=>false
 |[],_::_=>true
 |_::_,[]=>false
 |x::xs,y::ys=>if x=y then aN xs ys else keyLt x y
def dO:Sum Int Str->Bool
 |.inl _=>true
 |.inr _=>false
abbrev shape(ks:List (Sum Int Str)):List Bool:=ks.map dO
theorem GD{a b:Str}(h:a.cps.toList=b.cps.toList):a=b:=by
 cases a;cases b
 congr
 exact Array.toList_inj.mp h
theorem E3{a b:Sum Int Str}(h:keyLt a b=true):keyLt b a=false:=by
 cases a <;> cases b <;> first|rfl|skip
 ·have:_<_:=of_decide_eq_true h;exact decide_eq_false (by omega)
 ·exact decide_eq_false (List.lt_asymm (of_decide_eq_true h))
theorem uV{a b:Sum Int Str}(k:dO a=dO b)(h:keyLt a b=false)(h':keyLt b a=false):a=b:=by
 cases a <;> cases b <;> first|cases k|skip
 ·have h1:=of_decide_eq_false h;have h2:=of_decide_eq_false h'
  congr 1
  omega
 ·have h1:=of_decide_eq_false h;have h2:=of_decide_eq_false h'
  congr 1
  exact GD (List.le_antisymm (List.not_lt.mp h2) (List.not_lt.mp h1))
theorem E4:∀{a b c:Sum Int Str},dO a=dO b->dO b=dO c->keyLt b a=false->keyLt c b=false->keyLt c a=false
 |.inl a,.inl b,.inl c,_,_,h,h'=>by
  have h1:¬ b<a:=of_decide_eq_false h;have h2:¬ c<b:=of_decide_eq_false h';exact decide_eq_false (by omega)
 |.inr a,.inr b,.inr c,_,_,h,h'=>by
  have h1:a.cps.toList<=b.cps.toList:=List.not_lt.mp (of_decide_eq_false h);have h2:b.cps.toList<=c.cps.toList:=List.not_lt.mp (of_decide_eq_false h');exact decide_eq_false (List.not_lt.mpr (List.le_trans h1 h2))
 |.inl _,.inr _,_,k,_,_,_=>by cases k
 |.inr _,.inl _,_,k,_,_,_=>by cases k
 |.inl _,.inl _,.inr _,_,k,_,_=>by cases k
 |.inr _,.inr _,.inl _,_,k,_,_=>by cases k
theorem yV:∀a:List (Sum Int Str),aN a a=false
 |[]=>rfl
 |x::xs=>by
  unfold aN;rw[if_pos rfl];exact yV xs
theorem qT:∀{a b:List (Sum Int Str)},aN a b=true->aN b a=false
 |[],[],_=>rfl
 |[],_::_,_=>rfl
 |_::_,[],h=>by cases h
 |x::xs,y::ys,h=>by
  unfold aN at h⊢
  by_cases e:x=y
  ·subst e;rw[if_pos rfl]at h⊢;exact qT h
  ·rw[if_neg e]at h;rw[if_neg λz=>e z.symm];exact E3 h
theorem jB:∀{a b:List (Sum Int Str)},shape a=shape b->aN a b=false->aN b a=false->a=b
 |[],[],_,_,_=>rfl
 |[],_::_,s,_,_=>by cases s
 |_::_,[],s,_,_=>by cases s
 |x::xs,y::ys,s,h,h'=>by
  have s1:dO x=dO y:=by simpa using congrArg List.head? s
  have s2:shape xs=shape ys:=by simpa using congrArg List.tail s
  unfold aN at h h'
  by_cases e:x=y
  ·subst e;rw[if_pos rfl]at h h';rw[jB s2 h h']
  ·rw[if_neg e]at h;rw[if_neg λz=>e z.symm]at h';exact absurd (uV s1 h h') e
theorem mW:∀{a b c:List (Sum Int Str)},shape a=shape b->shape b=shape c->aN b a=false->aN c b=false->aN c a=false
 |[],[],[],_,_,_,_=>rfl
 |[],[],_::_,_,s',_,_=>by cases s'
 |[],_::_,_,s,_,_,_=>by cases s
 |_::_,[],_,s,_,_,_=>by cases s
 |_::_,_::_,[],_,s',_,_=>by cases s'
 |x::xs,y::ys,z::zs,s,s',h,h'=>by
  have s1:dO x=dO y:=by simpa using congrArg List.head? s
  have s2:shape xs=shape ys:=by simpa using congrArg List.tail s
  have s3:dO y=dO z:=by simpa using congrArg List.head? s'
  have s4:shape ys=shape zs:=by simpa using congrArg List.tail s'
  unfold aN at h h'⊢
  by_cases e:y=x
  ·subst e;rw[if_pos rfl]at h
   by_cases e':z=y
   ·subst e';rw[if_pos rfl]at h'⊢;exact mW s2 s4 h h'
   ·rw[if_neg e']at h'⊢;exact h'
  ·rw[if_neg e]at h
   by_cases e':z=y
   ·subst e';rw[if_neg e];exact h
   ·rw[if_neg e']at h'
    by_cases e2:z=x
    ·subst e2;exfalso;exact e (uV s3 h h')
    ·rw[if_neg e2];exact E4 s1 s3 h h'
open PySem PySem.W PyProof.Rows
section
variable(lt:Nat->Nat->Bool)
def evT{α:Type}:KasT α->α
 |.ret a=>a
 |.ask i j k=>evT (k (lt i j))
theorem gJ{α β:Type}(f:α->KasT β):∀t:KasT α,evT lt (t.bind f)=evT lt (f (evT lt t))
 |.ret _=>rfl
 |.ask i j k=>gJ f (k (lt i j))
abbrev pa'(p:Array Nat)(i:Nat):Nat:=p.getD i 0
def STo(p:Array Nat)(k:Nat):Prop:=∀i j,i<=j->j<k->lt (pa' p j) (pa' p i)=false
def NIc(p:Array Nat)(k:Nat):Prop:=∀i j,i<=j->j<k->lt (pa' p i) (pa' p j)=false
end
theorem fB{p:Array Nat}:pa' p i=(p[i]?).getD 0:=by
 unfold pa';simp[Array.getD_eq_getD_getElem?]
structure E5(lt:Nat->Nat->Bool)(p:Array Nat)(n f:Nat)(r:Array Nat×Nat×Nat):Prop where
 perm:r.1.Perm p
 lo:n<=r.2.1
 hi:r.2.1<=n+f
 q:r.2.2+1<=r.2.1
 ni:NIc lt r.1 r.2.1
 eq:∀i j,r.2.1-(r.2.2+1)<=i->i<r.2.1->r.2.1-(r.2.2+1)<=j->j<r.2.1->lt (pa' r.1 i) (pa' r.1 j)=false
variable{nrem:Nat}
section
variable{lt:Nat->Nat->Bool}(tr:∀i j k,lt j i=false->lt k j=false->lt k i=false)(as:∀i j,lt i j=true->lt j i=false)
include as in
theorem eR(i:Nat):lt i i=false:=by
 cases h:lt i i with
 |false=>rfl
 |true=>have:=as i i h;rw[h]at this;exact this
include tr as
theorem Ay(p:Array Nat):∀f n,1<=n->STo lt p n->n<=evT lt (kas_asc p f n)/\evT lt (kas_asc p f n)<=n+f/\STo lt p (evT lt (kas_asc p f n))
 |0,n,_,h=>⟨Pk _,Pk _,h⟩
 |f+1,n,h1,h=>by
  have e:evT lt (kas_asc p (f+1) n)=evT lt (if lt (p.getD n 0) (p.getD (n-1) 0)=true then KasT.ret n else kas_asc p f (n+1)):=rfl;rw[e]
  by_cases c:lt (p.getD n 0) (p.getD (n-1) 0)=true
  ·rw[if_pos c];exact⟨Pk _,Nat.le_add_right _ _,h⟩
  ·rw[if_neg c];have c':lt (p.getD n 0) (p.getD (n-1) 0)=false:=by simpa using c
   have h2:STo lt p (n+1):=λi j b9 hj=>by
    rcases Q7 (Nat.le_of_lt_succ hj) with hj|rfl
    ·exact h i j b9 hj
    ·rcases Q7 b9 with hi|rfl
     ·exact tr _ _ _ (h i (j-1) (by omega) (by omega)) c'
     ·exact eR as _
   obtain⟨a,b,c⟩:=Ay p f (n+1) (by omega) h2;exact⟨by omega,by omega,c⟩
theorem rev_eq{p:Array Nat}{a:Nat}(hn:n<=p.size)(eq:∀i j,a<=i->i<n->a<=j->j<n->lt (pa' p i) (pa' p j)=false)(i j:Nat):
  lt (pa' (kas_rev p a n) i) (pa' (kas_rev p a n) j)=lt (pa' p i) (pa' p j):=by
 have g:∀k,pa' (kas_rev p a n) k=if a<=k/\k<n then pa' p (a+n-1-k) else pa' p k:=λk=>by
  rw[fB,fB,fB];unfold kas_rev;rw[getElem?_mirror_all hn];split <;> rfl
 have sim:∀k,∃k',pa' (kas_rev p a n) k=pa' p k'/\lt (pa' p k) (pa' p k')=false/\lt (pa' p k') (pa' p k)=false:=λk=>by
  rw[g]
  by_cases h:a<=k/\k<n
  ·rw[if_pos h];exact⟨_,rfl,eq _ _ h.1 h.2 (by omega) (by omega),eq _ _ (by omega) (by omega) h.1 h.2⟩
  ·rw[if_neg h];exact⟨k,rfl,eR as _,eR as _⟩
 obtain⟨i',ei,i1,i2⟩:=sim i;obtain⟨j',ej,j1,j2⟩:=sim j;rw[ei,ej];cases h1:lt (pa' p i) (pa' p j) with
 |false=>exact tr _ _ _ j1 (tr _ _ _ h1 i2)
 |true=>
  cases h2:lt (pa' p i') (pa' p j') with
  |true=>rfl
  |false=>
   have:=tr _ _ _ j2 (tr _ _ _ h2 i1);rw[h1]at this;exact this.symm
theorem wF:∀f (p:Array Nat) n q,n+f<=p.size->q+1<=n->NIc lt p n->(∀i j,n-(q+1)<=i->i<n->n-(q+1)<=j->j<n->lt (pa' p i) (pa' p j)=false)->E5 lt p n f (evT lt (kas_desc f p n q))
 |0,p,n,q,_,hq,hN,hE=>⟨Sk _,Pk _,Pk _,hq,hN,hE⟩
 |f+1,p,n,q,hs,hq,hN,hE=>by
  have e:evT lt (kas_desc (f+1) p n q)=evT lt (if lt (p.getD n 0) (p.getD (n-1) 0)=true then(if q>0 then kas_desc f (kas_rev p (n-(q+1)) n) (n+1) 0 else kas_desc f p (n+1) 0)
    else .ask (p.getD (n-1) 0) (p.getD n 0) λd=>if d=true then .ret (p,n,q) else kas_desc f p (n+1) (q+1)):=rfl
  by_cases c:lt (p.getD n 0) (p.getD (n-1) 0)=true
  ·have down:∀p':Array Nat,p'.Perm p->(∀i j,lt (pa' p' i) (pa' p' j)=lt (pa' p i) (pa' p j))->evT lt (kas_desc (f+1) p n q)=evT lt (kas_desc f p' (n+1) 0)->E5 lt p n (f+1) (evT lt (kas_desc (f+1) p n q)):=λp' hp hl yj=>by
    have m9:NIc lt p' (n+1):=λi j b9 hj=>by
     rw[hl];rcases Q7 (Nat.le_of_lt_succ hj) with hj|rfl
     ·exact hN i j b9 hj
     ·rcases Q7 b9 with hi|rfl
      ·exact tr _ _ _ (as _ _ c) (hN i (j-1) (by omega) (by omega))
      ·exact eR as _
    have o8:∀i j,n+1-(0+1)<=i->i<n+1->n+1-(0+1)<=j->j<n+1->lt (pa' p' i) (pa' p' j)=false:=λi j h1 h2 h3 h4=>by
     have:i=j:=by omega
     subst this;exact eR as _
    have ih:=wF f p' (n+1) 0 (by rw[hp.size_eq];omega) (by omega) m9 o8;rw[<-yj]at ih;obtain⟨a1,a2,a3,a4,a5,a6⟩:=ih;exact⟨a1.trans hp,by omega,by omega,a4,a5,a6⟩
   rw[if_pos c]at e
   by_cases hq0:q>0
   ·rw[if_pos hq0]at e;exact down _ (Sl _ _ _ _) (rev_eq tr as (by omega) hE) e
   ·rw[if_neg hq0]at e;exact down p (Sk _) (λ_ _=>rfl) e
  ·rw[if_neg c]at e;have c':lt (p.getD n 0) (p.getD (n-1) 0)=false:=by simpa using c
   have e2:evT lt (kas_desc (f+1) p n q)=evT lt (if lt (p.getD (n-1) 0) (p.getD n 0)=true then KasT.ret (p,n,q) else kas_desc f p (n+1) (q+1)):=e
   by_cases d:lt (p.getD (n-1) 0) (p.getD n 0)=true
   ·rw[if_pos d]at e2;rw[e2];exact⟨Sk _,Pk _,Nat.le_add_right _ _,hq,hN,hE⟩
   ·rw[if_neg d]at e2;have d':lt (p.getD (n-1) 0) (p.getD n 0)=false:=by simpa using d
    have m9:NIc lt p (n+1):=λi j b9 hj=>by
     rcases Q7 (Nat.le_of_lt_succ hj) with hj|rfl
     ·exact hN i j b9 hj
     ·rcases Q7 b9 with hi|rfl
      ·exact tr _ _ _ d' (hN i (j-1) (by omega) (by omega))
      ·exact eR as _
    have o8:∀i j,n+1-(q+1+1)<=i->i<n+1->n+1-(q+1+1)<=j->j<n+1->lt (pa' p i) (pa' p j)=false:=λi j h1 h2 h3 h4=>by
     by_cases hi:i=n
     ·by_cases hj:j=n
      ·rw[hi,hj];exact eR as _
      ·rw[hi];exact tr _ _ _ (hE (n-1) j (by omega) (by omega) (by omega) (by omega)) c'
     ·by_cases hj:j=n
      ·rw[hj];exact tr _ _ _ d' (hE i (n-1) (by omega) (by omega) (by omega) (by omega))
      ·exact hE i j (by omega) (by omega) (by omega) (by omega)
    have ih:=wF f p (n+1) (q+1) (by omega) (by omega) m9 o8;rw[<-e2]at ih;obtain⟨a1,a2,a3,a4,a5,a6⟩:=ih;exact⟨a1,by omega,by omega,a4,a5,a6⟩
theorem yW{p:Array Nat}(h1:1<=n)(hn:n<=nrem)(hz:nrem<=p.size)(hN:NIc lt p n):
  n<=(evT lt (kas_tail3 n nrem p)).1/\(evT lt (kas_tail3 n nrem p)).1<=nrem/\(evT lt (kas_tail3 n nrem p)).2.Perm p/\STo lt (evT lt (kas_tail3 n nrem p)).2 (evT lt (kas_tail3 n nrem p)).1:=by
 have e:evT lt (kas_tail3 n nrem p)=(evT lt (kas_asc (kas_rev p 0 n) (nrem-n) n),kas_rev p 0 n):=by
  unfold kas_tail3;rw[gJ];rfl
 have g:∀k,k<n->pa' (kas_rev p 0 n) k=pa' p (n-1-k):=λk hk=>by
  rw[fB,fB];unfold kas_rev;rw[getElem?_mirror_all (by omega),if_pos (by omega)]
  congr 2
  omega
 have hS:STo lt (kas_rev p 0 n) n:=λi j b9 hj=>by
  rw[g i (by omega),g j hj];exact hN _ _ (by omega) (by omega)
 obtain⟨a,b,c⟩:=Ay tr as (kas_rev p 0 n) (nrem-n) n h1 hS;rw[e];exact⟨a,by show evT lt (kas_asc (kas_rev p 0 n) (nrem-n) n)<=nrem;omega,Sl _ _ _ _,c⟩
theorem qA{p:Array Nat}(h1:1<=n)(hn:n+1<=nrem)(hz:nrem<=p.size)(hN:NIc lt p n)(hd:lt (pa' p n) (pa' p (n-1))=true):
  1<=(evT lt (kas_descPart n nrem p)).1/\(evT lt (kas_descPart n nrem p)).1<=nrem/\(evT lt (kas_descPart n nrem p)).2.Perm p/\STo lt (evT lt (kas_descPart n nrem p)).2 (evT lt (kas_descPart n nrem p)).1:=by
 have m9:NIc lt p (n+1):=λi j b9 hj=>by
  rcases Q7 (Nat.le_of_lt_succ hj) with hj|rfl
  ·exact hN i j b9 hj
  ·rcases Q7 b9 with hi|rfl
   ·exact tr _ _ _ (as _ _ hd) (hN i (j-1) (by omega) (by omega))
   ·exact eR as _
 have o8:∀i j,n+1-(0+1)<=i->i<n+1->n+1-(0+1)<=j->j<n+1->lt (pa' p i) (pa' p j)=false:=λi j h1 h2 h3 h4=>by
  have:i=j:=by omega
  subst this;exact eR as _
 have D:=wF tr as (nrem-(n+1)) p (n+1) 0 (by omega) (by omega) m9 o8;have e:evT lt (kas_descPart n nrem p)=evT lt (if(evT lt (kas_desc (nrem-(n+1)) p (n+1) 0)).2.2>0 then kas_tail3 (evT lt (kas_desc (nrem-(n+1)) p (n+1) 0)).2.1 nrem (kas_rev (evT lt (kas_desc (nrem-(n+1)) p (n+1) 0)).1 ((evT lt (kas_desc (nrem-(n+1)) p (n+1) 0)).2.1-((evT lt (kas_desc (nrem-(n+1)) p (n+1) 0)).2.2+1)) (evT lt (kas_desc (nrem-(n+1)) p (n+1) 0)).2.1) else kas_tail3 (evT lt (kas_desc (nrem-(n+1)) p (n+1) 0)).2.1 nrem (evT lt (kas_desc (nrem-(n+1)) p (n+1) 0)).1):=by
  unfold kas_descPart;rw[gJ]
 generalize evT lt (kas_desc (nrem-(n+1)) p (n+1) 0)=r at D e;obtain⟨a1,a2,a3,a4,a5,a6⟩:=D;have sz:r.1.size=p.size:=a1.size_eq;rw[e]
 by_cases hq:r.2.2>0
 ·rw[if_pos hq];have hl:=rev_eq tr as (p:=r.1) (a:=r.2.1-(r.2.2+1)) (n:=r.2.1) (by omega) a6;obtain⟨b1,b2,b3,b4⟩:=yW tr as (n:=r.2.1) (nrem:=nrem) (p:=kas_rev r.1 (r.2.1-(r.2.2+1)) r.2.1) (by omega) (by omega) (by unfold kas_rev;rw[mirror_size];omega) (λi j b9 hj=>by rw[hl];exact a5 i j b9 hj);exact⟨by omega,b2,(b3.trans (Sl _ _ _ _)).trans a1,b4⟩
 ·rw[if_neg hq];obtain⟨b1,b2,b3,b4⟩:=yW tr as (n:=r.2.1) (nrem:=nrem) (p:=r.1) (by omega) (by omega) (by omega) a5;exact⟨by omega,b2,b3.trans a1,b4⟩
theorem rQ(p:Array Nat):∀f n,1<=n->evT lt (kas_asc p f n)<n+f->lt (pa' p (evT lt (kas_asc p f n))) (pa' p (evT lt (kas_asc p f n)-1))=true
 |0,n,_,h=>absurd h (Rg _)
 |f+1,n,h1,h=>by
  have e:evT lt (kas_asc p (f+1) n)=evT lt (if lt (p.getD n 0) (p.getD (n-1) 0)=true then KasT.ret n else kas_asc p f (n+1)):=rfl;rw[e]at h⊢
  by_cases c:lt (p.getD n 0) (p.getD (n-1) 0)=true
  ·rw[if_pos c];exact c
  ·rw[if_neg c]at h⊢;exact rQ p f (n+1) (by omega) (by omega)
theorem E6{p:Array Nat}(h1:1<=nrem)(hz:nrem<=p.size):
  1<=(evT lt (kas_count nrem p)).1/\(evT lt (kas_count nrem p)).1<=nrem/\(evT lt (kas_count nrem p)).2.Perm p/\STo lt (evT lt (kas_count nrem p)).2 (evT lt (kas_count nrem p)).1:=by
 have h0:STo lt p 1:=λi j b9 hj=>by
  have:i=j:=by omega
  subst this;exact eR as _
 obtain⟨a,b,c⟩:=Ay tr as p (nrem-1) 1 (Pk _) h0;have stop:=rQ tr as p (nrem-1) 1 (Pk _);have e:evT lt (kas_count nrem p)=evT lt (if(evT lt (kas_asc p (nrem-1) 1) == nrem)=true then .ret (evT lt (kas_asc p (nrem-1) 1),p) else if evT lt (kas_asc p (nrem-1) 1)>1 then .ask (p.getD 0 0) (p.getD (evT lt (kas_asc p (nrem-1) 1)-1) 0) λc=>if c=true then .ret (evT lt (kas_asc p (nrem-1) 1),p) else kas_descPart (evT lt (kas_asc p (nrem-1) 1)) nrem (kas_rev p 0 (evT lt (kas_asc p (nrem-1) 1))) else kas_descPart (evT lt (kas_asc p (nrem-1) 1)) nrem p):=by
  unfold kas_count;rw[gJ]
 generalize evT lt (kas_asc p (nrem-1) 1)=n at a b c e stop;rw[e]
 by_cases hn:(n == nrem)=true
 ·rw[if_pos hn];exact⟨a,by show n<=nrem;omega,Sk _,c⟩
 ·rw[if_neg hn];have qi:n≠nrem:=by simpa using hn
  have st:=stop (by omega)
  by_cases h2:n>1
  ·rw[if_pos h2];have e2:∀k:Bool->KasT (Nat×Array Nat),evT lt (.ask (p.getD 0 0) (p.getD (n-1) 0) k)=evT lt (k (lt (p.getD 0 0) (p.getD (n-1) 0))):=λ_=>rfl;rw[e2]
   by_cases h3:lt (p.getD 0 0) (p.getD (n-1) 0)=true
   ·rw[if_pos h3];exact⟨a,by show n<=nrem;omega,Sk _,c⟩
   ·rw[if_neg h3];have zd:lt (pa' p 0) (pa' p (n-1))=false:=by simpa using h3
    have eq:∀i j,0<=i->i<n->0<=j->j<n->lt (pa' p i) (pa' p j)=false:=λi j _ hi _ hj=>by
     exact tr _ _ _ (c j (n-1) (by omega) (by omega)) (tr _ _ _ zd (c 0 i (by omega) hi))
    have hl:=rev_eq tr as (p:=p) (a:=0) (n:=n) (by omega) eq;have g:pa' (kas_rev p 0 n) n=pa' p n:=by
     rw[fB,fB];unfold kas_rev;rw[getElem?_mirror_all (by omega),if_neg (by omega)]
    obtain⟨b1,b2,b3,b4⟩:=qA tr as (n:=n) (nrem:=nrem) (p:=kas_rev p 0 n) a (by omega) (by unfold kas_rev;rw[mirror_size];omega) (λi j b9 hj=>by rw[hl];exact eq i j (by omega) (by omega) (by omega) hj) (by rw[hl];exact st);exact⟨b1,b2,b3.trans (Sl _ _ _ _),b4⟩
  ·rw[if_neg h2];have zh:n=1:=by omega
   subst zh;exact qA tr as (n:=1) (nrem:=nrem) (p:=p) (Pk _) (by omega) hz (λi j b9 hj=>by
    have:i=j:=by omega
    subst this;exact eR as _) st
theorem rR(p:Array Nat)(k:Nat)(hS:STo lt p k):∀f l r,r-l<=f->l<=r->r<=k->(∀i,i<l->lt (pa' p k) (pa' p i)=false)->(∀i,r<=i->i<k->lt (pa' p k) (pa' p i)=true)->
  l<=evT lt (kas_place p k f l r)/\evT lt (kas_place p k f l r)<=k/\(∀i,i<evT lt (kas_place p k f l r)->lt (pa' p k) (pa' p i)=false)/\(∀i,evT lt (kas_place p k f l r)<=i->i<k->lt (pa' p k) (pa' p i)=true)
 |0,l,r,hf,hl,hr,h1,h2=>by
  have:l=r:=by omega
  subst this;exact⟨Pk _,hr,h1,h2⟩
 |f+1,l,r,hf,hl,hr,h1,h2=>by
  have e:evT lt (kas_place p k (f+1) l r)=evT lt (if l >= r then .ret l else .ask (p.getD k 0) (p.getD ((l+r)/2) 0) λc=>if c=true then kas_place p k f l ((l+r)/2) else kas_place p k f ((l+r)/2+1) r):=rfl;rw[e]
  by_cases jc:l >= r
  ·rw[if_pos jc];have:l=r:=by omega
   subst this;exact⟨Pk _,hr,h1,h2⟩
  ·rw[if_neg jc];have e2:∀q:Bool->KasT Nat,evT lt (.ask (p.getD k 0) (p.getD ((l+r)/2) 0) q)=evT lt (q (lt (p.getD k 0) (p.getD ((l+r)/2) 0))):=λ_=>rfl;rw[e2]
   by_cases c:lt (p.getD k 0) (p.getD ((l+r)/2) 0)=true
   ·rw[if_pos c];refine rR p k hS f l ((l+r)/2) (by omega) (by omega) (by omega) h1 λi hi hk=>?_;cases q:lt (pa' p k) (pa' p i) with
    |true=>rfl
    |false=>
     have:=tr _ _ _ (hS ((l+r)/2) i hi hk) q;rw[show lt (pa' p k) (pa' p ((l+r)/2))=true from c]at this
     exact this.symm
   ·rw[if_neg c];have c':lt (pa' p k) (pa' p ((l+r)/2))=false:=by simpa using c
    obtain⟨b1,b2,b3,b4⟩:=rR p k hS f ((l+r)/2+1) r (by omega) (by omega) hr (λi hi=>by
     cases q:lt (pa' p k) (pa' p i) with
     |false=>rfl
     |true=>
      exfalso;have s1:=hS i ((l+r)/2) (by omega) (by omega);have s2:=as _ _ q;have:lt (pa' p k) (pa' p i)=false:=by
       -- p[mid]<=p[k] (c'),p[i]<=p[mid]
       exact tr _ _ _ s1 c'
      rw[q]at this;cases this) h2
    exact⟨by omega,b2,b3,b4⟩
theorem E7:∀f (p:Array Nat) k,1<=k->k+f<=p.size->STo lt p k->(evT lt (kas_bin f p k)).Perm p/\STo lt (evT lt (kas_bin f p k)) (k+f)
 |0,p,k,_,_,h=>⟨Sk _,h⟩
 |f+1,p,k,h1,hz,h=>by
  have e:evT lt (kas_bin (f+1) p k)=evT lt (kas_bin f (bubble p k (k-evT lt (kas_place p k k 0 k))) (k+1)):=by
   show evT lt ((kas_place p k k 0 k).bind λl=>kas_bin f (bubble p k (k-l)) (k+1))=_
   rw[gJ]
  obtain⟨b1,b2,b3,b4⟩:=rR tr as p k h k 0 k (by omega) (P8 _) (Pk _) (λi hi=>absurd hi (Nat.not_lt_zero _)) (λi hi hk=>absurd hk (by omega));generalize evT lt (kas_place p k k 0 k)=l at e b1 b2 b3 b4;have g:∀i,pa' (bubble p k (k-l)) i=if i=l then pa' p k else if l<i/\i<=k then pa' p (i-1) else pa' p i:=λi=>by
   rw[fB,fB,fB,fB,getElem?_bubble (by omega) _ (by omega)];have el:k-(k-l)=l:=by omega
   rw[el];split
   ·rfl
   ·split <;> rfl
  have hS:STo lt (bubble p k (k-l)) (k+1):=λi j b9 hj=>by
   rw[g i,g j]
   by_cases hj1:j=l
   ·by_cases k7:i=l
    ·rw[if_pos hj1,if_pos k7];exact eR as _
    ·rw[if_pos hj1,if_neg k7,if_neg (by omega)];exact b3 i (by omega)
   ·rw[if_neg hj1]
    by_cases k7:i=l
    ·rw[if_pos k7,if_pos (by omega)];exact as _ _ (b4 (j-1) (by omega) (by omega))
    ·rw[if_neg k7]
     by_cases hj2:l<j/\j<=k
     ·rw[if_pos hj2]
      by_cases hi2:l<i/\i<=k
      ·rw[if_pos hi2];exact h _ _ (by omega) (by omega)
      ·rw[if_neg hi2];exact h _ _ (by omega) (by omega)
     ·rw[if_neg hj2,if_neg (by omega)];exact h _ _ b9 (by omega)
  have ih:=E7 f (bubble p k (k-l)) (k+1) (by omega) (by rw[bubble_size];omega) hS;rw[e];exact⟨ih.1.trans (bubble_perm _ _ _),by rw[show k+(f+1)=k+1+f by omega];exact ih.2⟩
theorem GE(h1:1<=n):(evT lt (kas_sort n)).toList.Perm (Qb n)/\(evT lt (kas_sort n)).toList.Pairwise (λi j=>lt j i=false):=by
 have e:evT lt (kas_sort n)=evT lt (if(evT lt (kas_count n (RZ (Qb n)))).1<n then kas_bin (n-max (evT lt (kas_count n (RZ (Qb n)))).1 1) (evT lt (kas_count n (RZ (Qb n)))).2 (max (evT lt (kas_count n (RZ (Qb n)))).1 1) else .ret (evT lt (kas_count n (RZ (Qb n)))).2):=by
  unfold kas_sort;rw[gJ]
 obtain⟨a1,a2,a3,a4⟩:=E6 tr as (nrem:=n) (p:=RZ (Qb n)) h1 (by simp);generalize evT lt (kas_count n (RZ (Qb n)))=r at e a1 a2 a3 a4;have fin:∀p:Array Nat,p.Perm (RZ (Qb n))->STo lt p n->p.toList.Perm (Qb n)/\p.toList.Pairwise (λi j=>lt j i=false):=λp hp hs=>by
  have hsz:p.size=n:=by rw[hp.size_eq];simp
  refine⟨by simpa using Array.perm_iff_toList_perm.mp hp,?_⟩
  rw[List.pairwise_iff_getElem];intro i j hi hj b9;have au:i<p.size:=by simpa using hi
  have oe:j<p.size:=by simpa using hj
  have:=hs i j (RY b9) (by omega);simpa[pa',Array.getD,au,oe] using this
 rw[e]
 by_cases ba:r.1<n
 ·rw[if_pos ba];have hm:max r.1 1=r.1:=by omega
  rw[hm];obtain⟨b1,b2⟩:=E7 tr as (n-r.1) r.2 r.1 a1 (by rw[a3.size_eq];simp;omega) a4;refine fin _ (b1.trans a3) ?_;rw[show r.1+(n-r.1)=n by omega]at b2;exact b2
 ·rw[if_neg ba];have:r.1=n:=by omega
  exact fin _ a3 (this▸a4)
end
open PySem PySem.Spec PyProof.Rows PySem.SeqAt PySem.W
def InP{α:Type}(n:Nat)(P:α->Prop):KasT α->Prop
 |.ret a=>P a
 |.ask i j k=>i<n/\j<n/\∀b,InP n P (k b)
theorem InP.bind{α β:Type}{P:α->Prop}{Q:β->Prop}{f:α->KasT β}:∀{t:KasT α},InP n P t->(∀a,P a->InP n Q (f a))->InP n Q (t.bind f)
 |.ret a,h,hf=>hf a h
 |.ask i j k,⟨h1,h2,h3⟩,hf=>⟨h1,h2,λb=>InP.bind (h3 b) hf⟩
theorem InP.mono{α:Type}{P Q:α->Prop}(hq:∀a,P a->Q a):∀{t:KasT α},InP n P t->InP n Q t
 |.ret a,h=>hq a h
 |.ask i j k,⟨h1,h2,h3⟩=>⟨h1,h2,λb=>InP.mono hq (h3 b)⟩
def AllLt(n:Nat)(p:Array Nat):Prop:=∀k,p.getD k 0<n
theorem AllLt.of{p q:Array Nat}(h:AllLt n p)(g:∀k:Nat,q[k]?=none\/∃k':Nat,q[k]?=p[k']?)(hn:0<n):AllLt n q:=λk=>by
 have e:∀(r:Array Nat) k,r.getD k 0=(r[k]?).getD 0:=λr k=>by simp[Array.getD_eq_getD_getElem?]
 rw[e];rcases g k with h1|⟨k',h1⟩
 ·rw[h1];exact hn
 ·rw[h1,<-e];exact h k'
theorem AllLt.perm{p q:Array Nat}(h:AllLt n p)(hp:q.Perm p)(hn:0<n):AllLt n q:=by
 refine AllLt.of h (λk=>?_) hn;cases e:q[k]? with
 |none=>exact .inl rfl
 |some v=>
  right;have hm:v∈q.toList:=by
   have:q.toList[k]?=some v:=by simpa using e
   exact PD this
  have qj:v∈p.toList:=(Array.perm_iff_toList_perm.mp hp).mem_iff.mp hm;obtain⟨k',hk⟩:=List.mem_iff_getElem?.mp qj;exact⟨k',by rw[<-hk];simp⟩
section
variable(hn:0<n)
include hn
theorem wG{p:Array Nat}(h:AllLt n p):∀f m,InP n (λ_=>True) (kas_asc p f m)
 |0,m=>trivial
 |f+1,m=>⟨h _,h _,λb=>by
  cases b with
  |true=>exact trivial
  |false=>exact wG h f (m+1)⟩
theorem mX:∀f (p:Array Nat) m q,AllLt n p->InP n (λr=>AllLt n r.1) (kas_desc f p m q)
 |0,p,m,q,h=>h
 |f+1,p,m,q,h=>⟨h _,h _,λb=>by
  cases b with
  |true=>
   show InP n _ (if q>0 then kas_desc f (kas_rev p (m-(q+1)) m) (m+1) 0 else kas_desc f p (m+1) 0)
   by_cases hq:q>0
   ·rw[if_pos hq];exact mX f _ _ _ (h.perm (Sl _ _ _ _) hn)
   ·rw[if_neg hq];exact mX f _ _ _ h
  | false=>exact ⟨h _,h _,fun d=>by
    cases d with
    |true=>exact h
    |false=>exact mX f _ _ _ h⟩⟩
theorem uW{p:Array Nat}(h:AllLt n p)(m r:Nat):InP n (λx=>AllLt n x.2) (kas_tail3 m r p):=by
 unfold kas_tail3;exact InP.bind (wG hn (h.perm (Sl _ _ _ _) hn) _ _) λa _=>h.perm (Sl _ _ _ _) hn
theorem mY{p:Array Nat}(h:AllLt n p)(m r:Nat):InP n (λx=>AllLt n x.2) (kas_descPart m r p):=by
 unfold kas_descPart;refine InP.bind (mX hn _ _ _ _ h) λa ha=>?_
 by_cases hq:a.2.2>0
 ·rw[if_pos hq];exact uW hn (ha.perm (Sl _ _ _ _) hn) _ _
 ·rw[if_neg hq];exact uW hn ha _ _
theorem CG{p:Array Nat}(h:AllLt n p)(r:Nat):InP n (λx=>AllLt n x.2) (kas_count r p):=by
 unfold kas_count;refine InP.bind (wG hn h _ _) λa _=>?_
 by_cases h1:(a == r)=true
 ·rw[if_pos h1];exact h
 ·rw[if_neg h1]
  by_cases h2:a>1
  ·rw[if_pos h2];exact⟨h _,h _,λb=>by
    cases b with
    |true=>exact h
    |false=>exact mY hn (h.perm (Sl _ _ _ _) hn) _ _⟩
  ·rw[if_neg h2];exact mY hn h _ _
theorem oG{p:Array Nat}(h:AllLt n p)(k:Nat):∀f l r,InP n (λ_=>True) (kas_place p k f l r)
 |0,l,r=>trivial
 |f+1,l,r=>by
  show InP n _ (if l >= r then .ret l else .ask (p.getD k 0) (p.getD ((l+r)/2) 0) λc=>if c=true then kas_place p k f l ((l+r)/2) else kas_place p k f ((l+r)/2+1) r)
  by_cases hl:l >= r
  ·rw[if_pos hl];exact trivial
  ·rw[if_neg hl];exact⟨h _,h _,λb=>by
    cases b with
    |true=>exact oG h k f _ _
    |false=>exact oG h k f _ _⟩
theorem Bt:∀f (p:Array Nat) k,AllLt n p->InP n (λ_=>True) (kas_bin f p k)
 |0,p,k,_=>trivial
 |f+1,p,k,h=>InP.bind (oG hn h k _ _ _) λl _=>Bt f _ _ (h.perm (bubble_perm _ _ _) hn)
theorem yX:InP n (λ_=>True) (kas_sort n):=by
 have h0:AllLt n (RZ (Qb n)):=λk=>by
  by_cases hk:k<n
  ·simp[Array.getD,hk]
  ·simp[Array.getD,hk,hn]
 unfold kas_sort;refine InP.bind (CG hn h0 n) λr hr=>?_
 by_cases h:r.1<n
 ·rw[if_pos h];exact Bt hn _ _ _ hr
 ·rw[if_neg h];exact trivial
end
theorem yY{α:Type}{n:Nat}{cmp:Nat->Nat->(Bool->Shared->Prop)->Shared->Prop}{lt:Nat->Nat->Bool}{s:Shared}(hc:∀i j C,i<n->j<n->C (lt i j) s->cmp i j C s){Q:α->Shared->Prop}{P:α->Prop}:
  ∀{t:KasT α},InP n P t->Q (evT lt t) s->t.kasWp cmp Q s
 |.ret _,_,h=>h
 |.ask i j k,⟨h1,h2,h3⟩,h=>hc i j _ h1 h2 (yY hc (h3 _) h)
def ltX(n:Nat)(lt:Nat->Nat->Bool)(i j:Nat):Bool:=if i<n then(if j<n then lt i j else true) else false
theorem Jq{lt:Nat->Nat->Bool}(tr:∀i j k,i<n->j<n->k<n->lt j i=false->lt k j=false->lt k i=false)(i j k:Nat)(h1:ltX n lt j i=false)(h2:ltX n lt k j=false):ltX n lt k i=false:=by
 unfold ltX at*
 by_cases hi:i<n <;> by_cases hj:j<n <;> by_cases hk:k<n <;> simp only[hi,hj,hk,if_true,if_false]at h1 h2⊢ <;> first|exact tr i j k hi hj hk h1 h2|exact absurd h2 (by decide)|exact absurd h1 (by decide)|rfl
theorem Jr{lt:Nat->Nat->Bool}(as:∀i j,i<n->j<n->lt i j=true->lt j i=false)(i j:Nat)(h:ltX n lt i j=true):ltX n lt j i=false:=by
 unfold ltX at*
 by_cases hi:i<n <;> by_cases hj:j<n <;> simp only[hi,hj,if_true,if_false]at h⊢ <;> first|exact as i j hi hj h|exact absurd h (by decide)|rfl
theorem uX{α:Type}{n:Nat}{lt lt':Nat->Nat->Bool}(h:∀i j,i<n->j<n->lt i j=lt' i j){P:α->Prop}:∀{t:KasT α},InP n P t->evT lt t=evT lt' t
 |.ret _,_=>rfl
 |.ask i j k,⟨h1,h2,h3⟩=>by
  show evT lt (k (lt i j))=evT lt' (k (lt' i j))
  rw[h i j h1 h2];exact uX h (h3 _)
theorem E8{lt:Nat->Nat->Bool}(tr:∀i j k,i<n->j<n->k<n->lt j i=false->lt k j=false->lt k i=false)(as:∀i j,i<n->j<n->lt i j=true->lt j i=false)(h1:1<=n):
  (evT lt (kas_sort n)).toList.Perm (Qb n)/\(evT lt (kas_sort n)).toList.Pairwise (λi j=>lt j i=false):=by
 have e:evT lt (kas_sort n)=evT (ltX n lt) (kas_sort n):=uX (λi j hi hj=>by unfold ltX;rw[if_pos hi,if_pos hj]) (yX (by omega));obtain⟨a,b⟩:=GE (lt:=ltX n lt) (Jq tr) (Jr as) h1;rw[e];refine⟨a,b.imp_of_mem λ{i j} hi hj h=>?_⟩;have au:i<n:=by simpa using a.mem_iff.mp hi
 have oe:j<n:=by simpa using a.mem_iff.mp hj
 unfold ltX at h;rw[if_pos oe,if_pos au]at h;exact h
def kD:Key->D
 |.inl i=>.int i
 |.inr x=>.str x
def tD(ks:List Key):D:=.tup (ks.map kD)
theorem GF{k:Key}(h:Rep K H (kD k) v):v=kV k:=by
 cases k <;> exact h
theorem uY{K:Pi}{H:Hp}:∀{ks:List Key}{vs:List V},eQ K H (ks.map kD) vs->vs=ks.map kV
 |[],[],_=>rfl
 |k::ks,v::vs,⟨h,r⟩=>by rw[GF h,uY (ks:=ks) r];rfl
 |[],_::_,h=>h.elim
 |_::_,[],h=>h.elim
abbrev jZ(h:Heap):List Value->List (List Key)->Prop:=Paired λv ks=>∃a us,v=.ref a/\IsTup h a us.toArray/\aJ (ks.map kV) us
theorem jZ.get{h:Heap}:∀{vs:List Value}{ae:List (List Key)}{i:Nat},jZ h vs ae->i<vs.length->∃a us,vs.getD i PU=.ref a/\IsTup h a us.toArray/\aJ ((ae.getD i []).map kV) us
 |_,_,i,.nil,hi=>by simp at hi
 |_,_,0,.cons ⟨a,us,e,p,q⟩ t,hi=>⟨a,us,by simpa using e,p,by simpa using q⟩
 |_,_,i+1,.cons _ t,hi=>by
  obtain⟨a,us,e,p,q⟩:=jZ.get (i:=i) t (by simpa using hi)
  exact⟨a,us,by simpa using e,p,by simpa using q⟩
theorem rS{X:Cx}{pins:List (Addr×Obj)}{σ:St}{H:Hp}{s:Shared}(I:Inv X pins σ H s):∀{ae:List (List Key)}{vs:List V}{us:List Value},eQ X.K H (ae.map tD) vs->aJ vs us->jZ s.heap us ae
 |[],[],_,_,.nil=>.nil
 |ks::ae,v::vs,_,⟨⟨a,ws,e,q,r⟩,rs⟩,.cons rv je=>by
  subst e;cases rv
  obtain⟨its,r2,p,_⟩:=I.tuple q;rw[uY r]at r2;exact .cons ⟨a,its,rfl,p,r2⟩ (rS I rs je)
 |[],_::_,_,h,_=>h.elim
 |_::_,[],_,h,_=>h.elim
variable{ls:List Key}{us ws:List Value}{ae:List (List Key)}{sh:List Bool}
section
theorem jC{b:Bool}{Q:Bool->Shared->Prop}:∀(ks ls:List Key)(us ws:List Value)(i:Nat),aJ (ks.map kV) us->aJ (ls.map kV) ws->shape ks=shape ls->Q (aN ks ls) s->KatLex prog w A b false Q (us.zip ws) i s
 |[],[],_,_,i,.nil,.nil,_,h=>h
 |[],_::_,_,_,_,_,_,e,_=>by cases e
 |_::_,[],_,_,_,_,_,e,_=>by cases e
 |x::ks,y::ls,_,_,i,.cons (b:=u) r1 t1,.cons (b:=v) r2 t2,e,h=>by
  have s1:dO x=dO y:=by simpa using congrArg List.head? e
  have s2:shape ks=shape ls:=by simpa using congrArg List.tail e
  rw[List.zip_cons_cons];unfold aN at h;cases x with
  |inl a=>
   cases y with
   |inr c=>cases s1
   |inl c=>
    obtain⟨t,rfl⟩:=r1;obtain⟨t',rfl⟩:=r2;refine kat_cons (EqAt.int_int a t c t' prog w _ _ ?_)
    by_cases ac:a=c
    ·subst ac;rw[if_pos rfl]at h;rw[beq_self_eq_true];exact kat_yes (jC ks ls _ _ (i+1) t1 t2 s2 h)
    ·rw[if_neg (λz=>ac (Sum.inl.inj z))]at h;rw[beq_eq_false_iff_ne.mpr ac];refine kat_no ?_;cases hb:(b&&i == 0) with
     |true=>exact oneLt_int h
     |false=>exact kat_one _ _ (lt_int (show PySem.W.BoolBack Q (.bool (decide (a<c))) s from h))
  |inr a=>
   cases y with
   |inl c=>cases s1
   |inr c=>
    obtain⟨t,rfl⟩:=r1;obtain⟨t',rfl⟩:=r2;refine kat_cons (EqAt.str_str a t c t' prog w _ _ ?_)
    by_cases ac:a=c
    ·subst ac;rw[if_pos rfl]at h;rw[beq_self_eq_true];exact kat_yes (jC ks ls _ _ (i+1) t1 t2 s2 h)
    ·rw[if_neg (λz=>ac (Sum.inr.inj z))]at h;rw[beq_eq_false_iff_ne.mpr ac];refine kat_no ?_;cases hb:(b&&i == 0) with
     |true=>exact oneLt_str h
     |false=>exact kat_one _ _ (lt_str (show PySem.W.BoolBack Q (.bool (decide (a.cps.toList<c.cps.toList))) s from h))
theorem Az{x y:Addr}{ks:List Key}{Q:Bool->Shared->Prop}(hx:IsTup s.heap x us.toArray)(hy:IsTup s.heap y ws.toArray)(r1:aJ (ks.map kV) us)(r2:aJ (ls.map kV) ws)(e:shape ks=shape ls)(h:Q (aN ks ls) s):
  wpAny (model prog w) A (keyLt' (tuples' b) (.ref x) (.ref y)) Q E s:=by
 obtain⟨ox,Oz,_,n,dx⟩:=hx;obtain⟨oy,OI,_,m,dy⟩:=hy;refine kat_lt Oz dx OI dy ?_;have l1:=r1.length;have l2:=r2.length;have l3:ks.length=ls.length:=by simpa using congrArg List.length e
 rw[Pl]at l1 l2;have hf:decide (us.toArray.size<ws.toArray.size)=false:=decide_eq_false (by simp;omega);rw[hf];exact jC ks ls us ws 0 r1 r2 e h
set_option tactic.hygienic true in
theorem rT{h:Heap}{b:Bool}{sh:List Bool}:∀{vs:List Value}{ae:List (List Key)},jZ h vs ae->(∀ks∈ae,shape ks=b::sh)->∃fs:List Value,fs.length=vs.length/\KatTups h vs fs/\∀f∈fs,typeOf f=pure (.type (if b then "int" else "str"))
 |_,_,.nil,_=>⟨[],rfl,KatTups.nil,λ_ hf=>nomatch hf⟩
 |_,_,.cons (b:=ks) ⟨a,us,e,⟨o,ho,hc,n,hd⟩,r⟩ t,hs=>by
  obtain⟨fs,hl,ht,hT⟩:=rT t λx hx=>hs x (Pj _ hx);have h0:=hs ks Pm;subst e;cases ks with
  |nil=>cases h0
  |cons k ks=>
   cases r with
   |cons rk rks=>
    rename_i u us';have hk:dO k=b:=by simpa using congrArg List.head? h0
    refine⟨u::fs,by simp[hl],KatTups.cons ho hc hd (by simp) ht,λf hf=>?_⟩;rcases PC.mp hf with rfl|hf
    ·cases k with
     |inl i=>obtain⟨tk,rfl⟩:=rk;subst hk;rfl
     |inr x=>obtain⟨tk,rfl⟩:=rk;subst hk;rfl
    ·exact hT f hf
theorem CH{vs:List Value}{Q:SortKind->Shared->Prop}(t:jZ s.heap vs ae)(hs:∀ks∈ae,shape ks=b::sh)(h0:0<vs.length)(h:Q (tuples' true) s):wpAny (model prog w) A (keyKind' vs.toArray) Q E s:=by
 obtain⟨fs,hl,ht,hT⟩:=rT t hs;refine kat_kind (T:=.type (if b then "int" else "str")) ht (by omega) (λv hv=>by rw[hT v hv];exact Looks.now) (by cases b <;> rfl) ?_;have:((Value.type (if b then "int" else "str")) != Value.type "tuple")=true:=by cases b <;> rfl
 rw[this];exact h
end
theorem CI{α:Type}{xs:List α}{d:α}{p:List Nat}(h:p.Perm (Qb xs.length)):(p.map λi=>xs.getD i d).Perm xs:=by
 have e:(Qb xs.length).map (λi=>xs.getD i d)=xs:=by
  apply Rt;intro i
  by_cases hi:i<xs.length
  ·simp[hi]
  ·simp[hi]
 have:=h.map λi=>xs.getD i d
 rwa[e]at this
theorem uZ{vs:List V}{us:List Value}(r:aJ vs us):∀{p:List Nat},(∀i∈p,i<vs.length)->aJ (p.map λi=>vs.getD i .non) (p.map λi=>us.getD i PU)
 |[],_=>.nil
 |i::p,h=>by
  have hi:=h i Pm;have g:vs[i]?=some (vs.getD i .non):=by simp[hi]
  obtain⟨u,hu,hr⟩:=r.get g;have e:us.getD i PU=u:=by simp[Ry,hu]
  refine .cons ?_ (uZ r λj hj=>h j (Pj _ hj))
  show RelV (vs.getD i .non) (us.getD i PU)
  rw[e];exact hr
open PySem PySem.Spec PyProof.Rows
variable{key:Value}
section
variable{K:Type}[DecidableEq K]
theorem qK{knd:HeapKind prog w K}{d:Addr}{xs:List (K×Addr×Value)}{k:K}{x:Value}(hu:knd.room A)(aj:knd.is s.heap k a)(hm:s.heap.DictOfH knd d xs)(hz:xs.length<=Pt)(there:∀p,atKey xs k=some p->Q p.2 { s with toks:=s.toks+knd.draws k })(new:atKey xs k=none->∀h',h'.DictOfH knd d (storedH xs k a x)->QN d s.heap h'->Q x { s with heap:=h',toks:=s.toks+knd.draws k }):wpAny (model prog w) A (Sx d (.ref a) x) Q E s:=by
 obtain⟨o,es,ep,ho,hc,hd,he,uz,hn⟩:=hm;unfold Sx;refine Rq (Pf (knd.pyHash hu aj ?_));refine Pf (wpAny_dictFind_heap (s:={ s with toks:=s.toks+knd.draws k }) hu aj ho hd he uz hn (λl7=>?_) (λj p hj=>?_))
 ·have l0:=atKey_none_of_get l7;have fresh:=not_mem_keys_of_get l7;refine Pf (SR (Pf (wpAny_updateDictKeys (hz:=by have e:=size_of_entries he;omega) (s:={ s with toks:=s.toks+knd.draws k }) ho hd (Ph (new l0 _ ⟨_,_,ep+1,QF _ ho (Obj.isFreed_of_dict (Rp hd _)),hc.mapDictKeys _,Rp hd _,?_,?_,?_⟩ (PR ..))))))
  ·rw[storedH_new l0,Array.toList_push,he,PZ];rfl
  ·rw[storedH_new l0];intro z hz';rcases PK.mp hz' with q|q
   ·exact knd.keeps (uz z q) ho hd (PR ..)
   ·rw[Pz.mp q];exact knd.keeps aj ho hd (PR ..)
  ·rw[storedH_new l0,PZ,Qx];refine⟨hn,by simp,λu um v hv e=>fresh ?_⟩;have:v=k:=by simpa using hv
   rw[<-this,<-e];exact um
 ·have l0:atKey xs k=some p:=atKey_of_get hn hj;refine Pf (Qg (s:={ s with toks:=s.toks+knd.draws k }) ho hd ?_);rw[entry_at he j,hj];exact Pf (SR (Ph (there p l0)))
theorem oH{knd:KeyKind prog w K}{d:Addr}{kvs:List (K×Value)}{k:K}{x:Value}(aj:knd.is k key=true)(hm:s.heap.DictOf knd d kvs)(hz:kvs.length<=Pt)(there:∀v,valueAt kvs k=some v->Q v { s with toks:=s.toks+1 })(new:valueAt kvs k=none->∀h',h'.DictOf knd d (stored kvs k x)->QN d s.heap h'->Q x { s with heap:=h',toks:=s.toks+1 }):wpAny (model prog w) A (Sx d key x) Q E s:=by
 have nu:=hm.mapOf;obtain⟨o,es,ep,ho,hc,hd,hk,hp,hn⟩:=id hm;have dz:es.size<=Pt:=by
  have e1:=hp.length;rw[SL]at e1;omega
 unfold Sx;refine Rq (Pf (knd.pyHash aj (Pf (wpAny_dictFind_of (s:={ s with toks:=s.toks+1 }) aj ho hd hk ?_))));have uf:(es.findIdx? λe=>knd.is k e.key)=kvs.findIdx? λkv=>decide (kv.1=k):=by rw[<-hp.findIdx k];obtain⟨l⟩:=es;simp
 cases hi:es.findIdx? λe=>knd.is k e.key with
 |some i=>
  refine Pf (Qg (s:={ s with toks:=s.toks+1 }) ho hd ?_);obtain⟨o',e9,e7,cp,_,dq,_,hf⟩:=nu;obtain rfl:o=o':=PP (ho.symm.trans cp);have tu:es=e9:=by rw[hd]at dq;injection dq
  subst tu;have vc:valueAt kvs k=(es[i]?).map (·.val):=by rw[<-hf k,findBy_of_findIdx?,hi]
  have ba:i<es.size:=(Array.findIdx?_eq_some_iff_findIdx_eq.mp hi).1;rw[QT ba]at vc⊢;exact Pf (SR (Ph (there _ vc)))
 |none=>
  have fresh:k∉kvs.map (·.1):=not_mem_of_findIdx_none (uf▸hi);have mj:¬ (kvs.any λkv=>decide (kv.1=k))=true:=by
   rw[SH];rintro⟨kv,q1,q2⟩;exact fresh (Pw.mpr ⟨kv,q1,of_decide_eq_true q2⟩)
  have hv:valueAt kvs k=none:=by
   obtain⟨o',e9,e7,cp,_,dq,_,hf⟩:=nu;obtain rfl:o=o':=PP (ho.symm.trans cp);have tu:es=e9:=by rw[hd]at dq;injection dq
   subst tu;rw[<-hf k,findBy_of_findIdx?,hi]
  refine Pf (SR (Pf (wpAny_updateDictKeys (hz:=dz) (s:={ s with toks:=s.toks+1 }) ho hd (Ph (new hv _ ⟨_,_,ep+1,QF _ ho (Obj.isFreed_of_dict (Rp hd _)),hc.mapDictKeys _,Rp hd _,hk.push aj _,?_,?_⟩ (PR ..))))))
  ·rw[stored,if_neg mj];have q:=hp.append aj (knd.hash k) x;obtain⟨l⟩:=es;simpa using q
  ·rw[stored,if_neg mj,PZ,Qx];refine⟨hn,by simp,λu um v t8 e=>fresh ?_⟩;have:v=k:=by simpa using t8
   rw[<-this,<-e];exact um
end
section
variable{K:Type}[DecidableEq K]
theorem iV(knd:HeapKind prog w K)(d a:Addr)(hd:(d == Qm)=false)(x:Value):
  MeetsIn prog w (Builtin.«dict.setdefault» ⟨[.ref d,.ref a,x],[]⟩) (λA R s=>knd.room A.in1/\∃k xs,knd.is s.heap k a/\s.heap.DictOfH knd d xs/\xs.length<=Pt/\(∀p,atKey xs k=some p->R (.ok (.ret p.2)) { s with toks:=s.toks+knd.draws k })/\
   (atKey xs k=none->∀h',h'.DictOfH knd d (storedH xs k a x)->QN d s.heap h'->R (.ok (.ret x)) { s with heap:=h',toks:=s.toks+knd.draws k })):=
 .of_wp λA R s ⟨hu,k,xs,aj,hm,hz,r1,r2⟩=>by
  unfold Builtin.«dict.setdefault»;refine Pf ?_;unfold Builtin.Dict.keyAndDefault;refine Pf (QZ hm.typeIs (show wpAny _ _ (pure (d,P7 a,some x)) _ _ s from Ph ?_))
  show wpAny _ _ (if(d == Qm)=true then _ else(Sx d (.ref a) x >>= _)) _ _ s
  rw[if_neg (show ¬ _ from by rw[hd];decide)]
  exact Pf (qK hu aj hm hz (λp e=>Ph ⟨p.2,rfl,r1 p e⟩) λe h' q1 q2=>Ph ⟨x,rfl,r2 e h' q1 q2⟩)
theorem iB(knd:KeyKind prog w K)(d:Addr)(hd:(d == Qm)=false){k:K}(aj:knd.is k key=true)(x:Value):
  MeetsIn prog w (Builtin.«dict.setdefault» ⟨[.ref d,key,x],[]⟩) (λA R s=>∃kvs,s.heap.DictOf knd d kvs/\kvs.length<=Pt/\(∀v,valueAt kvs k=some v->R (.ok (.ret v)) { s with toks:=s.toks+1 })/\
   (valueAt kvs k=none->∀h',h'.DictOf knd d (stored kvs k x)->QN d s.heap h'->R (.ok (.ret x)) { s with heap:=h',toks:=s.toks+1 })):=
 .of_wp λA R s ⟨kvs,hm,hz,r1,r2⟩=>by
  unfold Builtin.«dict.setdefault»;refine Pf ?_;unfold Builtin.Dict.keyAndDefault;refine Pf (QZ hm.typeIs (show wpAny _ _ (pure (d,key,some x)) _ _ s from Ph ?_))
  show wpAny _ _ (if(d == Qm)=true then _ else(Sx d key x >>= _)) _ _ s
  rw[if_neg (show ¬ _ from by rw[hd];decide)]
  exact Pf (oH aj hm hz (λv e=>Ph ⟨v,rfl,r1 v e⟩) λe h' q1 q2=>Ph ⟨x,rfl,r2 e h' q1 q2⟩)
end
variable{dc:Addr}{ep:Nat}{oc:Obj}{it:Addr}
section
variable{v:Addr}{es:Array QX}
theorem CJ(hv:s.heap.IsValuesView v dc)(h1:s.heap.get? dc=some oc)(h2:oc.data=.dict es ep)(q:Q (.ref s.heap.objs.size) { s with heap:=s.heap.push { cls:=.type "dict_valueiterator",data:=.fields #[.ref dc,.int 0 0,.int es.size 0,.int ep 0] } }):wpAny (model prog w) A (pyIter (.ref v)) Q E s:=by
 obtain⟨ov,g1,g2,g3⟩:=id hv;refine Sq hv.typeIs F.slot_dict_values_iter (Qf F.slot_dict_values_iter hv.typeIs F.entry_dict_values_iter (show wpAny _ _ (Builtin.«dict_values.__iter__» _) _ _ _ from ?_) (F.args_dict_values_iter_1 _))
 unfold Builtin.«dict_values.__iter__»;refine Pf (Ph (Pf ?_));unfold Sy;refine Pf (Sh g1 g3 (x:=.ref dc) rfl (Ph (Pf ?_)));unfold R0;refine Pf (Qg h1 h2 (Pf (Q8 h1 h2 ?_)));rw[show P9 "dict_valueiterator" = false by decide];simp only[Qk,if_false];refine PY (Ph ⟨_,rfl,"dict_valueiterator",_,⟨_,Pr _ rfl,rfl⟩,QO.lookup,(by simpa[rawInt] using q)⟩)
theorem E9{Q:Option Value->Shared->Prop}(hI:s.heap.IsValIter it dc i es.size ep)(h1:s.heap.get? dc=some oc)(h2:oc.data=.dict es ep)(ba:i<es.size)(q:∀h',h'.IsValIter it dc (i+1) es.size ep->QN it s.heap h'->Q (some es[i].val) { s with heap:=h' }):wpAny (model prog w) A (pyNext (.ref it)) Q E s:=by
 obtain⟨oi,g1,g2,g3⟩:=id hI;unfold pyNext;refine Pf (Sr (Qr (name:=PM "__next__") hI.typeIs QO (Qf QO hI.typeIs F.entry_dict_valueiterator_next ?_ (F.args_dict_valueiterator_next_1 _))));refine Pf (Ph (Pf (Pf ?_)))
 first|refine Pf (Rm hI.typeIs (Ph ?_))|refine Pf (RS hI.typeIs (Ph ?_))
 refine Pf (Sz g1 g3 ?_);rw[show P9 "dict_valueiterator" = false by decide];simp only[Qk,if_false]
 show wpAny _ _ (if(P7 dc == PU)=true then _ else _) _ _ s
 rw[if_neg (show ¬ ((P7 dc == PU)=true) from Px)]
 refine Pf (Ph (Pf (Qg h1 h2 ?_)));rw[if_neg (show ¬ _ by simp)];refine Pf (Ph (Pf (Q8 h1 h2 ?_)));rw[if_neg (show ¬ _ by simp)];refine Ph ?_;simp only[show ¬ ((i:Int)<0) by omega,if_false,Rf,QT ba];refine Pf ?_
 first|refine Pf (Rm hI.typeIs (Ph ?_))|refine Pf (RS hI.typeIs (Ph ?_))
 refine Pf (wpAny_isOneOf_valiter hI.typeIs (show wpAny _ _ (setField (.ref it) 1 (rawInt ((i:Int)+1)) >>= _) _ _ s from Pf (R9 g1 g3 (by simp) ?_)))
 have ip:(s.heap.update it (Rr (·.setIfInBounds 1 (rawInt ((i:Int)+1))))).IsValIter it dc (i+1) es.size ep:=
  ⟨_,QF _ g1 (Sm (RG g3 _)),(Obj.cls_mapFields ..).trans g2,by rw[RG g3];simp[rawInt]⟩
 have jw:({ s with heap:=s.heap.update it (Rr (·.setIfInBounds 1 (rawInt ((i:Int)+1)))) }:Shared).TypeIs (.ref it) "dict_valueiterator" := ip.typeIs;refine Pf (Rq (Pf (wpAny_isOneOf_valiter jw (Pf (wpAny_isOneOf_valiter jw ?_)))))
 show wpAny _ _ (pure es[i].val) _ _ _
 exact Ph (Ph ⟨_,rfl,Ph (q _ ip (PR ..))⟩)
theorem Ea{Q:Option Value->Shared->Prop}(hh:A.handled=none)(hI:s.heap.IsValIter it dc i es.size ep)(h1:s.heap.get? dc=some oc)(h2:oc.data=.dict es ep)(jc:es.size<=i)(q:∀h',Heap.ExtBut it s.heap h'->Q none { s with heap:=h' }):wpAny (model prog w) A (pyNext (.ref it)) Q E s:=by
 obtain⟨oi,g1,g2,g3⟩:=id hI;unfold pyNext;refine Pf (Sr (Qr (name:=PM "__next__") hI.typeIs QO (Qf QO hI.typeIs F.entry_dict_valueiterator_next ?_ (F.args_dict_valueiterator_next_1 _))));refine Pf (Ph (Pf (Pf ?_)))
 first|refine Pf (Rm hI.typeIs (Ph ?_))|refine Pf (RS hI.typeIs (Ph ?_))
 refine Pf (Sz g1 g3 ?_);rw[show P9 "dict_valueiterator" = false by decide];simp only[Qk,if_false]
 show wpAny _ _ (if(P7 dc == PU)=true then _ else _) _ _ s
 rw[if_neg (show ¬ ((P7 dc == PU)=true) from Px)]
 refine Pf (Ph (Pf (Qg h1 h2 ?_)));rw[if_neg (show ¬ _ by simp)];refine Pf (Ph (Pf (Q8 h1 h2 ?_)));rw[if_neg (show ¬ _ by simp)];refine Ph ?_;simp only[show ¬ ((i:Int)<0) by omega,if_false,Rf,QA jc];refine Pf ?_
 first|refine Pf (Rm hI.typeIs (Ph ?_))|refine Pf (RS hI.typeIs (Ph ?_))
 refine(show wpAny _ _ (setField (.ref it) 0 .none >>= _) _ _ s from Pf (R9 g1 g3 (by simp) ?_))
 refine(show wpAny _ _ (newExc (.type "StopIteration") [] >>= _) _ _ _ from Pf ?_);simp only[newExc,newTuple]
 refine Pf (PY (Pf (m:=SB _ _) (wpAny_of_eq (a:=PU) (by first|rfl|(simp only[SB];rfl)) (PY ?_ (by size_fits)))) (by size_fits))
 simp only[raiseNew];refine Pf (wpAny_handled ?_);rw[show A.in1.handled=none from hh]
 refine Pf (Ph (wpAny_throw ?_));refine Pf (wpAny_isInstance (T:="StopIteration") (b:=true) ⟨_,Pr _ rfl,rfl⟩ isSubtype_stop ?_);exact Ph (q _ (((PR ..).extBut.push _).push _))
theorem AA(hh:A.handled=none)(I dc:Addr)(ow:dc≠I)(oc:Obj)(es:Array QX)(ep:Nat)(h2:oc.data=.dict es ep):
  Walks prog w A I [I,dc] [I] es.size (λi v=>∃e,es[i]?=some e/\v=e.val) (λi h=>h.IsValIter I dc i es.size ep/\h.get? dc=some oc) where
 sub:=λb hb=>by rw[Pz.mp hb];exact Pm
 frame:=λ_ _ _ st hk=>⟨let ⟨o,e,r⟩:=st.1;⟨o,hk I Pm o e,r⟩,hk dc (Pj _ Pm) _ st.2⟩
 item:=λi s Q E hi st hQ=>E9 st.1 st.2 h2 hi λh' j6 dj=>hQ _ h' s.toks ⟨es[i],by simp[hi],rfl⟩ ⟨j6,(dj.2 dc ow).trans st.2⟩ λb o hb e=>(dj.2 b λz=>hb (by rw[z];exact Pm)).trans e
 done:=λs Q E st hQ=>Ea hh st.1 st.2 h2 (Pk _) λh' gp=>hQ h' s.toks λb o hb e=>gp b o (λz=>hb (by rw[z];exact Pm)) e
 self:=λ_ _ _ _ st hQ=>wpAny_pyIter_valiter st.1 hQ
theorem Eb{r:Addr}(h2:oc.data=.dict es ep):PySem.W.KdlSrc prog w "dict_values" r dc es.size (λi v=>∃e,es[i]?=some e/\v=e.val) (λh=>h.IsValuesView r dc/\h.get? dc=some oc) where
 type:=λ_ hm=>hm.1.typeIs
 there:=λ_ hm=>⟨let ⟨_,ho,_⟩:=hm.1;Py ho,Py hm.2⟩
 keep:=λ_ _ hm hk=>⟨let ⟨o,ho,x⟩:=hm.1;⟨o,hk r (.inl rfl) o ho,x⟩,hk dc (.inr rfl) _ hm.2⟩
 notList:=by decide
 notTuple:=by decide
 hint:=λ_ _ _ _ hm hq=>PySem.W.kdl_hint_values hm.1.typeIs hq
 iter:=λ_ _ hh hm=>⟨_,_,(λ_ _ hq=>CJ hm.1 hm.2 h2 hq),AA hh _ dc (Qd (Py hm.2)) oc es ep h2,⟨⟨_,Pr _ rfl,rfl,rfl⟩,Pn _ hm.2⟩⟩
theorem wH(dc:Addr)(hd:(dc == Qm)=false):MeetsIn prog w (Builtin.«dict.values» ⟨[.ref dc],[]⟩) (λ_ R s=>s.TypeIs (.ref dc) "dict" /\
   R (.ok (.ret (.ref s.heap.objs.size))) { s with heap:=s.heap.push { cls:=.type "dict_values",data:=.fields #[.ref dc] } }):=
 .of_wp λA R s ⟨hT,h⟩=>by
  refine Pf ?_;unfold SM;refine Pf (QZ hT (show wpAny _ _ (pure dc) _ _ s from Ph (show wpAny _ _ (QH dc >>= _) _ _ s from ?_)))
  unfold QH;rw[if_neg (show ¬ _ from by rw[hd];decide)]
  refine Pf (Ph (Pf (PY (Ph ⟨_,rfl,h⟩))))
end
variable{ov:Value}
theorem fQ{ok:Value}(hI:IsItemIter s.heap it dc i n ep ok ov):s.TypeIs (.ref it) "dict_itemiterator" := ⟨_,hI,rfl⟩
theorem AB{v:Addr}{es:Array QX}(hv:s.heap.IsItemsView v dc)(h1:s.heap.get? dc=some oc)(h2:oc.data=.dict es ep)(q:Q (.ref s.heap.objs.size) { s with heap:=s.heap.push { cls:=.type "dict_itemiterator",data:=.fields #[.none,.bool false,.ref dc,.int 0 0,.int es.size 0,.int ep 0,.none,.none] } }):wpAny (model prog w) A (pyIter (.ref v)) Q E s:=by
 obtain⟨ov,g1,g2,g3⟩:=id hv;refine Sq hv.typeIs F.slot_dict_items_iter (Qf F.slot_dict_items_iter hv.typeIs F.entry_dict_items_iter (show wpAny _ _ (Builtin.«dict_items.__iter__» _) _ _ _ from ?_) (F.args_dict_items_iter_1 _))
 unfold Builtin.«dict_items.__iter__»;refine Pf (Ph (Pf ?_));unfold Sy;refine Pf (Sh g1 g3 (x:=.ref dc) rfl (Ph (Pf ?_)));unfold R0;refine Pf (Qg h1 h2 (Pf (Q8 h1 h2 ?_)));rw[show P9 "dict_itemiterator" = true by decide];simp only[if_true,Builtin.Dict_items.ownedTupleFields,SF,List.nil_append,Qk,if_false];refine PY (Ph ⟨_,rfl,"dict_itemiterator",_,⟨_,Pr _ rfl,rfl⟩,Qv.lookup,(by simpa[rawInt] using q)⟩)
theorem next_item{es:Array QX}{ok:Value}{Q:Option Value->Shared->Prop}(hI:IsItemIter s.heap it dc i es.size ep ok ov)(h1:s.heap.get? dc=some oc)(h2:oc.data=.dict es ep)(ba:i<es.size)(q:∀h',IsItemIterOut h' it dc (i+1) es.size ep es[i].key es[i].val s.heap.objs.size->h'.get? s.heap.objs.size=some { cls:=.type "tuple",data:=.seq #[es[i].key,es[i].val] }->
   (∀(b:Addr)(o:Obj),b≠it->s.heap.get? b=some o->h'.get? b=some o)->Q (some (.ref s.heap.objs.size)) { s with heap:=h' }):wpAny (model prog w) A (pyNext (.ref it)) Q E s:=by
 have hT:=fQ hI;unfold pyNext;refine Pf (Sr (Qr (name:=PM "__next__") hT Qv (Qf Qv hT F.entry_dict_itemiterator_next ?_ (F.args_dict_itemiterator_next_1 _))));refine Pf (Ph (Pf (Pf ?_)))
 first|refine Pf (Rj hT (Ph ?_))|refine Pf (RM hT (Ph ?_))
 refine Pf (Sz hI rfl ?_);rw[show P9 "dict_itemiterator" = true by decide];simp only[if_true]
 show wpAny _ _ (if(P7 dc == PU)=true then _ else _) _ _ s
 rw[if_neg (show ¬ ((P7 dc == PU)=true) from Px)]
 refine Pf (Ph (Pf (Qg h1 h2 ?_)));rw[if_neg (show ¬ _ by simp)];refine Pf (Ph (Pf (Q8 h1 h2 ?_)));rw[if_neg (show ¬ _ by simp)];refine Ph ?_;simp only[show ¬ ((i:Int)<0) by omega,if_false,Rf,QT ba];refine Pf ?_
 first|refine Pf (Rj hT (Ph ?_))|refine Pf (RM hT (Ph ?_))
 refine Pf (wpAny_isOneOf_itemiter hT (show wpAny _ _ (setField (.ref it) 3 (rawInt ((i:Int)+1)) >>= _) _ _ s from Pf (R9 hI rfl (by simp) ?_)))
 have ip:IsItemIter (s.heap.update it (Rr (·.setIfInBounds 3 (rawInt ((i:Int)+1))))) it dc (i+1) es.size ep ok ov:=by
  show(s.heap.update it _).get? it=_
  rw[QF _ hI (Sm (RG rfl _))];simp[Rr,rawInt]
 have kp:∀(b:Addr)(o:Obj),b≠it->s.heap.get? b=some o->(s.heap.update it (Rr (·.setIfInBounds 3 (rawInt ((i:Int)+1))))).get? b=some o:=λb o hb e=>by
  rw[(PR ..).2 b hb];exact e
 have sz:(s.heap.update it (Rr (·.setIfInBounds 3 (rawInt ((i:Int)+1))))).objs.size=s.heap.objs.size:=(PR ..).1;generalize s.heap.update it (Rr (·.setIfInBounds 3 (rawInt ((i:Int)+1))))=hA at ip kp sz;have jw:({ s with heap:=hA }:Shared).TypeIs (.ref it) "dict_itemiterator" := fQ ip;refine Pf (Rq (Pf (wpAny_isOneOf_itemiter jw (Pf (wpAny_isOneOf_itemiter jw ?_)))))
 show wpAny _ _ (Builtin.Dict_items.pairFromOwner (.ref it) 6 es[i].key es[i].val) _ _ _
 unfold Builtin.Dict_items.pairFromOwner;simp only[newTuple];refine Pf (PY ?_ (by size_fits));have og:IsItemIter (hA.push { cls:=.type "tuple",data:=.seq #[es[i].key,es[i].val] }) it dc (i+1) es.size ep ok ov:=Pn _ ip;have gt:(hA.push { cls:=.type "tuple",data:=.seq #[es[i].key,es[i].val] }).get? hA.objs.size=some { cls:=.type "tuple",data:=.seq #[es[i].key,es[i].val] }:=Pr _ rfl;have qf:∀(b:Addr)(o:Obj),b≠it->s.heap.get? b=some o->(hA.push { cls:=.type "tuple",data:=.seq #[es[i].key,es[i].val] }).get? b=some o:=λb o hb e=>Pn _ (kp b o hb e);rw[sz]at gt;have ne:s.heap.objs.size≠it:=SQ (Py hI)
 show wpAny _ _ _ _ _ { s with heap:=hA.push { cls:=.type "tuple",data:=.seq #[es[i].key,es[i].val] } }
 generalize hA.push { cls:=.type "tuple",data:=.seq #[es[i].key,es[i].val] }=hB at og gt qf;have eA:(P7 ({ s with heap:=hA }:Shared).heap.objs.size)=.ref s.heap.objs.size:=by rw[<-sz]
 simp only[eA];unfold Builtin.Dict_items.ownedTupleIsFree;refine Pf (Pf (Sh (s:={ s with heap:=hB }) og rfl (x:=.none) rfl (Ph ?_)));simp only[if_true];refine Pf (Sh (s:={ s with heap:=hB }) og rfl (x:=ok) rfl (Pf (Sh (s:={ s with heap:=hB }) og rfl (x:=ov) rfl ?_)));have p7:∀{h1:Heap}{fs:Array Value}{j:Nat}{x:Value}{α:Type}{f:Unit->Sem α}{R:α->Shared->Prop}{E':Value->Shared->Prop},h1.get? it=some { cls:=.type "dict_itemiterator",data:=.fields fs }->j<fs.size->
   (∀h2:Heap,h2.get? it=some { cls:=.type "dict_itemiterator",data:=.fields (fs.setIfInBounds j x) }->(∀(b:Addr),b≠it->h2.get? b=h1.get? b)->wpAny (model prog w) A.in1 (f ()) R E' { s with heap:=h2 })->
   wpAny (model prog w) A.in1 (setField (.ref it) j x >>= f) R E' { s with heap:=h1 }:=λ{h1 fs j x α f R E'} g hj k=>by
  refine Pf (R9 (s:={ s with heap:=h1 }) g rfl hj ?_);refine k _ ?_ λb hb=>(PR ..).2 b hb;rw[QF _ g (Sm (RG rfl _))];simp[Rr]
 refine p7 og (by simp) λh3 g3 s3=>?_;refine p7 g3 (by simp) λh4 g4 s4=>?_;refine p7 g4 (by simp) λh5 g5 s5=>?_;refine p7 g5 (by simp) λh6 g6 s6=>?_;refine Pf (wpAny_letGo (Ph (Ph ⟨_,rfl,Ph (q h6 (by rw[<-sz];show h6.get? it=_;rw[g6];simp) ?_ λb o hb e=>?_)⟩)))
 ·rw[s6 _ ne,s5 _ ne,s4 _ ne,s3 _ ne];exact gt
 ·rw[s6 _ hb,s5 _ hb,s4 _ hb,s3 _ hb];exact qf b o hb e
theorem CK{es:Array QX}{ok:Value}{Q:Option Value->Shared->Prop}(hh:A.handled=none)(hI:IsItemIter s.heap it dc i es.size ep ok ov)(h1:s.heap.get? dc=some oc)(h2:oc.data=.dict es ep)(jc:es.size<=i)(q:∀h',Heap.ExtBut it s.heap h'->Q none { s with heap:=h' }):wpAny (model prog w) A (pyNext (.ref it)) Q E s:=by
 have hT:=fQ hI;unfold pyNext;refine Pf (Sr (Qr (name:=PM "__next__") hT Qv (Qf Qv hT F.entry_dict_itemiterator_next ?_ (F.args_dict_itemiterator_next_1 _))));refine Pf (Ph (Pf (Pf ?_)))
 first|refine Pf (Rj hT (Ph ?_))|refine Pf (RM hT (Ph ?_))
 refine Pf (Sz hI rfl ?_);rw[show P9 "dict_itemiterator" = true by decide];simp only[if_true]
 show wpAny _ _ (if(P7 dc == PU)=true then _ else _) _ _ s
 rw[if_neg (show ¬ ((P7 dc == PU)=true) from Px)]
 refine Pf (Ph (Pf (Qg h1 h2 ?_)));rw[if_neg (show ¬ _ by simp)];refine Pf (Ph (Pf (Q8 h1 h2 ?_)));rw[if_neg (show ¬ _ by simp)];refine Ph ?_;simp only[show ¬ ((i:Int)<0) by omega,if_false,Rf,QA jc];refine Pf ?_
 first|refine Pf (Rj hT (Ph ?_))|refine Pf (RM hT (Ph ?_))
 refine(show wpAny _ _ (setField (.ref it) 2 .none >>= _) _ _ s from Pf (R9 hI rfl (by simp) ?_))
 refine(show wpAny _ _ (newExc (.type "StopIteration") [] >>= _) _ _ _ from Pf ?_);simp only[newExc,newTuple]
 refine Pf (PY (Pf (m:=SB _ _) (wpAny_of_eq (a:=PU) (by first|rfl|(simp only[SB];rfl)) (PY ?_ (by size_fits)))) (by size_fits))
 simp only[raiseNew];refine Pf (wpAny_handled ?_);rw[show A.in1.handled=none from hh]
 refine Pf (Ph (wpAny_throw ?_));refine Pf (wpAny_isInstance (T:="StopIteration") (b:=true) ⟨_,Pr _ rfl,rfl⟩ isSubtype_stop ?_);exact Ph (q _ (((PR ..).extBut.push _).push _))
theorem rV:entryFor table "dict_itemiterator.__iter__" = some Builtin.«dict_keyiterator.__iter__»:=entryFor_alias (id:="dict_itemiterator.__iter__") (id':="dict_keyiterator.__iter__") (by first|rfl|decide +kernel) (by first|rfl|decide +kernel) (by decide +kernel) (by rfl)
theorem AC{ok:Value}(hI:IsItemIter s.heap it dc i n ep ok ov)(q:Q (.ref it) s):wpAny (model prog w) A (pyIter (.ref it)) Q E s:=by
 have hT:=fQ hI;refine Sq hT F.slot_dict_itemiterator_iter (Qf F.slot_dict_itemiterator_iter hT rV (show wpAny _ _ (Builtin.«dict_keyiterator.__iter__» _) _ _ _ from ?_) (F.args_dict_itemiterator_iter_1 _))
 unfold Builtin.«dict_keyiterator.__iter__»;refine Pf (Ph ?_);exact Ph ⟨_,rfl,"dict_itemiterator",_,hT,Qv.lookup,q⟩
theorem yZ(dc:Addr)(hd:(dc == Qm)=false):MeetsIn prog w (Builtin.«dict.items» ⟨[.ref dc],[]⟩) (λ_ R s=>s.TypeIs (.ref dc) "dict" /\
   R (.ok (.ret (.ref s.heap.objs.size))) { s with heap:=s.heap.push { cls:=.type "dict_items",data:=.fields #[.ref dc] } }):=
 .of_wp λA R s ⟨hT,h⟩=>by
  refine Pf ?_;unfold SM;refine Pf (QZ hT (show wpAny _ _ (pure dc) _ _ s from Ph (show wpAny _ _ (QH dc >>= _) _ _ s from ?_)))
  unfold QH;rw[if_neg (show ¬ _ from by rw[hd];decide)]
  refine Pf (Ph (Pf (PY (Ph ⟨_,rfl,h⟩))))
theorem jD:Slot "dict_keys" (PM "__iter__") "dict_keys.__iter__" := Slot.of (owner:="dict_keys") (n:="__iter__")
 (by rw[typeLookup_type,builtinLookup_eq_fast];rfl) (by decide +kernel) (by decide +kernel) (by decide +kernel) (.inl (by decide +kernel)) (by rw[isSubtype_type];rfl) (by decide +kernel)
theorem qL:entryFor table "dict_keys.__iter__" = some Builtin.«dict_keys.__iter__»:=entryFor_of_tree (by rfl)
theorem AD:Sf (String.ofList ['s','y','e','k','_','t','c','i','d'].reverse) Manifest.owners=some Manifest.sig_dict_keys:=by rfl
theorem rW(a:Value):argsOk "dict_keys.__iter__" ⟨[a],[]⟩:=by
 have e:=signature?_of (id:="dict_keys.__iter__") (n:=['_','_','r','e','t','i','_','_']) (o:=['s','y','e','k','_','t','c','i','d']) (by rfl) AD;unfold argsOk;rw[e];rfl
theorem AE{v:Addr}{es:Array QX}(hv:PySem.W.KdlKeysView s.heap v dc)(h1:s.heap.get? dc=some oc)(h2:oc.data=.dict es ep)(q:Q (.ref s.heap.objs.size) { s with heap:=s.heap.push { cls:=.type "dict_keyiterator",data:=.fields #[.ref dc,.int 0 0,.int es.size 0,.int ep 0] } }):wpAny (model prog w) A (pyIter (.ref v)) Q E s:=by
 obtain⟨ov,g1,g2,g3⟩:=id hv;refine Sq hv.typeIs jD (Qf jD hv.typeIs qL (show wpAny _ _ (Builtin.«dict_keys.__iter__» _) _ _ _ from ?_) (rW _))
 unfold Builtin.«dict_keys.__iter__»;refine Pf (Ph (Pf ?_));unfold Sy;refine Pf (Sh g1 g3 (x:=.ref dc) rfl (Ph (Pf ?_)));unfold R0;refine Pf (Qg h1 h2 (Pf (Q8 h1 h2 ?_)));rw[show P9 "dict_keyiterator" = false by decide];simp only[Qk,if_false];refine PY (Ph ⟨_,rfl,"dict_keyiterator",_,⟨_,Pr _ rfl,rfl⟩,QC.lookup,(by simpa[rawInt] using q)⟩)
theorem AF(dc:Addr)(hd:(dc == Qm)=false):MeetsIn prog w (Builtin.«dict.keys» ⟨[.ref dc],[]⟩) (λ_ R s=>s.TypeIs (.ref dc) "dict" /\
   R (.ok (.ret (.ref s.heap.objs.size))) { s with heap:=s.heap.push { cls:=.type "dict_keys",data:=.fields #[.ref dc] } }):=
 .of_wp λA R s ⟨hT,h⟩=>by
  refine Pf ?_;unfold SM;refine Pf (QZ hT (show wpAny _ _ (pure dc) _ _ s from Ph (show wpAny _ _ (QH dc >>= _) _ _ s from ?_)))
  unfold QH;rw[if_neg (show ¬ _ from by rw[hd];decide)]
  refine Pf (Ph (Pf (PY (Ph ⟨_,rfl,h⟩))))
open PySem PySem.Spec PyProof.Rows PySem.SeqAt PySem.W
def bW(b:Bool)(n i:Nat):Nat:=if b then n-1-i else i
def zA(b:Bool)(n:Nat)(p:List Nat):List Nat:=katRev b (p.map (bW b n))
theorem jE{α:Type}(b:Bool){l:List α}{d:α}(hi:i<l.length):(katRev b l).getD i d=l.getD (bW b l.length i) d:=by
 cases b with
 |false=>rfl
 |true=>
  show l.reverse.getD i d=l.getD (l.length-1-i) d
  rw[Ry,Ry,List.getElem?_reverse hi]
theorem fC(h:i<n):bW b n i<n:=by
 unfold bW;split <;> omega
theorem AG{p:List Nat}(h:p.Perm (Qb n)):(zA b n p).Perm (Qb n):=by
 cases b with
 |false=>
  have e:zA false n p=p:=by
   show p.map (λi=>bW false n i)=p
   have:(λi=>bW false n i)=id:=by funext i;rfl
   rw[this,List.map_id]
  rw[e];exact h
 |true=>
  have e:(Qb n).map (bW true n)=(Qb n).reverse:=by
   apply List.ext_getElem
   ·simp
   ·intro i h1 h2;simp[bW]
  show((p.map (bW true n)).reverse).Perm _
  refine(RT _).trans ((h.map _).trans ?_);rw[e];exact RT _
theorem AH{p:List Nat}{lt:Nat->Nat->Bool}(h:p.Pairwise (λi j=>lt (bW b n j) (bW b n i)=false)):(zA b n p).Pairwise (λi j=>(if b then lt i j else lt j i)=false):=by
 have h1:(p.map (bW b n)).Pairwise (λi j=>lt j i=false):=Q1.mpr h;cases b with
 |false=>exact h1
 |true=>
  show((p.map (bW true n)).reverse).Pairwise _
  rw[Sn];exact h1
theorem CL{vs:List Value}{p:List Nat}(h:∀i∈p,i<vs.length):katRev b (p.map λi=>(katRev b vs).getD i PU)=(zA b vs.length p).map λi=>vs.getD i PU:=by
 have e:(p.map λi=>(katRev b vs).getD i PU)=(p.map (bW b vs.length)).map λi=>vs.getD i PU:=by
  rw[Qq];exact QI λi hi=>jE b (h i hi)
 rw[e];unfold zA katRev;split
 ·rw[SJ]
 ·rfl
theorem AI{α:Type}(b:Bool)(l:List α):katRev b (katRev b l)=l:=by
 unfold katRev;split <;> simp
theorem range_getD(vs:List Value):((Qb vs.length).map λi=>vs.getD i PU)=vs:=by
 apply Rt;intro i
 by_cases hi:i<vs.length
 ·simp[hi]
 ·simp[hi]
variable{e1:Nat}{kS:Addr}{out:List Value}{κ:SortKind}
section
variable{vs ks:List Value}
theorem Ig{st:SortSt}{e:Nat}{P:PySem.Fin->Shared->Prop}(rj:(arrOf st).map (·.2)=out.toArray)(hz:out.length<64)(hkz:ks.length<64)(hf:failedOf st=none)(ko:kS≠a)(gk:s.heap.get? kS=some (seqObj "list" ks.toArray e))(ga:s.heap.get? a=some (seqObj "list" #[] e1))(h:∀(h':Heap)(c:Nat),(∀x o,x≠a->x≠kS->s.heap.get? x=some o->h'.get? x=some o)->h'.get? a=some (seqObj "list" (katRev b out).toArray c)->(∃o,h'.get? kS=some o)->P (.done (.ret .none)) { s with heap:=h' }):
  wpAny (model prog w) A (ksk_tail a b e1 (.ref kS) st) P E s:=by
 have w1:=PR s.heap kS (Qw λ_=>(#[]:Array Value));obtain⟨ck,hck⟩:∃ck,(s.heap.update kS (Qw λ_=>(#[]:Array Value))).get? kS=some (seqObj "list" #[] ck):=⟨_,get?_update_seq gk λ_=>#[]⟩;have se:=(w1.2 a ko.symm).trans ga;have w2:=PR (s.heap.update kS (Qw λ_=>(#[]:Array Value))) a (Qw λ_=>(katRev b out).toArray);obtain⟨c2,di⟩:∃c2,((s.heap.update kS (Qw λ_=>(#[]:Array Value))).update a (Qw λ_=>(katRev b out).toArray)).get? a=some (seqObj "list" (katRev b out).toArray c2):=⟨_,get?_update_seq se λ_=>(katRev b out).toArray⟩;have hsz:(katRev b out).toArray.size=out.length:=by rw[Pq,kat_len]
 unfold ksk_tail
 try dsimp only
 rw[rj,kat_outs];refine Pf (listUpdate_at gk rfl ?_ (by rw[Pq,QE];omega) (P8 _));refine Pf (wpAny_letGo (Pf (seqEpoch_at se rfl ?_)));refine Pf (listUpdate_at se rfl ?_ (P8 _) (P6 (Nat.le_of_eq hsz) (by rw[QE];omega)));rw[hf];simp only[bne_self_eq_false,Qk,if_false];exact Ph (h _ c2 (λx o h1 h2 q=>(w2.2 x h1).trans ((w1.2 x h2).trans q)) di ⟨_,(w2.2 kS ko).trans hck⟩)
theorem NM{e:Nat}{P:PySem.Fin->Shared->Prop}(lt:Nat->Nat->Bool)(hl:ks.length=vs.length)(i6:vs.length<64)(ko:kS≠a)(tr:∀i j k,i<vs.length->j<vs.length->k<vs.length->lt j i=false->lt k j=false->lt k i=false)(as:∀i j,i<vs.length->j<vs.length->lt i j=true->lt j i=false)(gk:s.heap.get? kS=some (seqObj "list" ks.toArray e))(ga:s.heap.get? a=some (seqObj "list" #[] e1))(hk:2<=vs.length->∀(Q:SortKind->Shared->Prop) E',Q κ s->wpAny (model prog w) A (keyKind' ks.toArray) Q E' s)(ba:∀i j,i<vs.length->j<vs.length->∀Q:Bool->Shared->Prop,Q (lt i j) s->wpAny (model prog w) A (keyLt' κ (ks.getD i PU) (ks.getD j PU)) Q (λ_ _=>False) s)(h:∀(p:List Nat)(h':Heap)(c:Nat),p.Perm (Qb vs.length)->p.Pairwise (λi j=>(if b then lt i j else lt j i)=false)->(∀x o,x≠a->x≠kS->s.heap.get? x=some o->h'.get? x=some o)->
   h'.get? a=some (seqObj "list" (p.map λi=>vs.getD i PU).toArray c)->(∃o,h'.get? kS=some o)->P (.done (.ret .none)) { s with heap:=h' }):
  wpAny (model prog w) A (ksk_end a b vs.toArray e1 (.ref kS) ks.toArray) P E s:=by
 have skip:∀t:Sem PySem.Fin,wpAny (model prog w) A t P E s->wpAny (model prog w) A (if b=true then(do let _ <-rule "list.sort.reverse";t) else t) P E s:=λt ht=>by
  split
  ·exact Pf (SR ht)
  ·exact ht
 have uq:(katRev b ks).length=(katRev b vs).length:=by rw[kat_len,kat_len,hl]
 unfold ksk_end
 try dsimp only
 refine skip _ ?_
 rw[kat_pairs b hl]
 by_cases h2:vs.toArray.size<2
 ·rw[if_pos h2,if_pos h2]
  rw[Pq]at h2
  refine Pf (Ph ?_)
  rw[StateT.run_pure]
  refine Pf (Ph ?_)
  try dsimp only
  refine Ig (st:=SortSt.mk' general' ((katRev b ks).toArray.zip (katRev b vs).toArray) #[] 7 none) (out:=katRev b vs) (ks:=ks) ?_ (by rw[kat_len];exact i6) (by omega) rfl ko gk ga λh' c k1 k2 k3=>?_
  ·show((katRev b ks).toArray.zip (katRev b vs).toArray).map (·.2)=(katRev b vs).toArray
   apply Array.toList_inj.mp
   rw[Array.toList_map,ksk_zip]
   show(List.zip _ _).map Prod.snd=_
   rw[List.map_snd_zip (by rw[uq];exact Pk _)]
  ·rw[AI]at k2
   refine h (Qb vs.length) h' c (List.Perm.refl _) ?_ k1 (by rw[range_getD];exact k2) k3
   rw[List.pairwise_iff_getElem]
   intro i j hi hj b9
   simp only[List.length_range]at hi hj
   omega
 ·rw[if_neg h2,if_neg h2]
  rw[Pq]at h2
  refine Pf (hk (by omega) _ _ ?_)
  have uh:(kas_sort (katRev b vs).length).kasWp (kas_ask prog w A κ (katRev b ks)) (λp da=>p=evT (λi j=>lt (bW b vs.length i) (bW b vs.length j)) (kas_sort vs.length)/\da=s) s:=by
   rw[kat_len]
   refine yY (n:=vs.length) (lt:=λi j=>lt (bW b vs.length i) (bW b vs.length j)) (λi j C hi hj hC=>?_) (yX (by omega)) ⟨rfl,rfl⟩
   show wpAny (model prog w) A (keyLt' κ ((katRev b ks).getD i PU) ((katRev b ks).getD j PU)) C (λ_ _=>False) s
   rw[jE b (by omega),jE b (by omega),hl]
   exact ba _ _ (fC hi) (fC hj) C hC
  refine Pf (Rz (kat_run (ks:=katRev b ks) (vs:=katRev b vs) (E:=E) (Q:=λb0 s'=>s'=s/\arrOf b0=(evT (λi j=>lt (bW b vs.length i) (bW b vs.length j)) (kas_sort vs.length)).map (kas_item ((katRev b ks).toArray.zip (katRev b vs).toArray))/\failedOf b0=none)
   uq (by rw[kat_len];omega) (by rw[kat_len];exact i6) (λp b0 s' _ a2 a3 a4=>⟨a4.2,by rw[a2,a4.1],a3⟩) uh) ?_ λ_ _ x=>x)
  rintro⟨⟨⟩,b0⟩ s' ⟨rfl,har,hf⟩
  try dsimp only
  obtain⟨c1,c2⟩:=E8 (n:=vs.length) (lt:=λi j=>lt (bW b vs.length i) (bW b vs.length j)) (λi j k hi hj hk=>tr _ _ _ (fC hi) (fC hj) (fC hk)) (λi j hi hj=>as _ _ (fC hi) (fC hj)) (by omega)
  have cv:∀i∈(evT (λi j=>lt (bW b vs.length i) (bW b vs.length j)) (kas_sort vs.length)).toList,i<vs.length:=λi hi=>by simpa using c1.mem_iff.mp hi
  refine Ig (ks:=ks) (kat_snds uq har) (by rw[Pl,c1.length_eq,List.length_range];exact i6) (by omega) hf ko gk ga λh' c k1 k2 k3=>?_
  rw[CL cv]at k2
  exact h _ h' c (AG c1) (AH c2) k1 k2 k3
theorem AJ{f:Value}{P:PySem.Fin->Shared->Prop}(ho:s.heap.get? a=some (seqObj "list" vs.toArray n))(i6:vs.length<64)(J:Addr->Nat->List Value->Nat->Shared->Prop)(h0:∀(kS e1:Nat)(h':Heap),(∀x o,x≠a->s.heap.get? x=some o->h'.get? x=some o)->s.heap.objs.size<=kS->h'.get? a=some (seqObj "list" #[] e1)->h'.get? kS=some (seqObj "list" #[] 0)->J kS e1 [] 0 { s with heap:=h' })(c9:∀kS e1 ks e s',J kS e1 ks e s'->kS≠a/\s'.heap.get? a=some (seqObj "list" #[] e1)/\s'.heap.get? kS=some (seqObj "list" ks.toArray e))(turn:∀kS e1 ks e s' x,vs[ks.length]?=some x->J kS e1 ks e s'->wpAny (model prog w) A (call f [x]) (λv da=>da.heap.get? kS=some (seqObj "list" ks.toArray e)/\∀(h':Heap) e',QN kS da.heap h'->h'.get? kS=some (seqObj "list" (ks++[v]).toArray e')->J kS e1 (ks++[v]) e' { da with heap:=h' }) (λ_ _=>False) s')(fin:∀kS e1 ks e s',ks.length=vs.length->J kS e1 ks e s'->∃lt:Nat->Nat->Bool,(∀i j k,i<vs.length->j<vs.length->k<vs.length->lt j i=false->lt k j=false->lt k i=false)/\(∀i j,i<vs.length->j<vs.length->lt i j=true->lt j i=false)/\
   (2<=vs.length->∀(Q:SortKind->Shared->Prop) E',Q κ s'->wpAny (model prog w) A (keyKind' ks.toArray) Q E' s')/\
   (∀i j,i<vs.length->j<vs.length->∀Q:Bool->Shared->Prop,Q (lt i j) s'->wpAny (model prog w) A (keyLt' κ (ks.getD i PU) (ks.getD j PU)) Q (λ_ _=>False) s')/\
   ∀(p:List Nat)(h':Heap)(c:Nat),p.Perm (Qb vs.length)->p.Pairwise (λi j=>(if b then lt i j else lt j i)=false)->(∀x o,x≠a->x≠kS->s'.heap.get? x=some o->h'.get? x=some o)->
   h'.get? a=some (seqObj "list" (p.map λi=>vs.getD i PU).toArray c)->(∃o,h'.get? kS=some o)->P (.done (.ret .none)) { s' with heap:=h' }):
  wpAny (model prog w) A (ksk_tree a f b) P E s:=by
 have ha:a<s.heap.objs.size:=Py ho;have w1:=PR s.heap a (Qw λ_=>(#[]:Array Value));obtain⟨e1,kh⟩:∃e1,(s.heap.update a (Qw λ_=>(#[]:Array Value))).get? a=some (seqObj "list" #[] e1):=⟨_,get?_update_seq ho λ_=>#[]⟩;unfold ksk_tree;refine Pf (listItems_at ho rfl (Pf (listUpdate_at ho rfl ?_ (by rw[Pq,QE];omega) (P8 _))));refine Pf (seqEpoch_at kh rfl (Pf (wpAny_newTuple ?_ (by show vs.length<=_;rw[QE];omega))));refine Pf (wpAny_newList (Rq ?_) (P8 _));have zm:((s.heap.update a (Qw λ_=>(#[]:Array Value))).push (seqObj "tuple" vs.toArray 0)).objs.size=s.heap.objs.size+1:=by rw[size_push',Heap.size_update]
 have J0:=h0 ((s.heap.update a (Qw λ_=>(#[]:Array Value))).push (seqObj "tuple" vs.toArray 0)).objs.size e1 (((s.heap.update a (Qw λ_=>(#[]:Array Value))).push (seqObj "tuple" vs.toArray 0)).push (seqObj "list" #[] 0))
  (λx o hx q=>Pn _ (Pn _ ((w1.2 x hx).trans q))) (by rw[zm];exact RK _) (Pn _ (Pn _ kh)) (Pr _ rfl)
 show wpAny (model prog w) A (ksk_rest a f b vs.toArray e1 (.ref ((s.heap.update a (Qw λ_=>(#[]:Array Value))).push (seqObj "tuple" vs.toArray 0)).objs.size)) P E { s with heap:=((s.heap.update a (Qw λ_=>(#[]:Array Value))).push (seqObj "tuple" vs.toArray 0)).push (seqObj "list" #[] 0) }
 generalize ((s.heap.update a (Qw λ_=>(#[]:Array Value))).push (seqObj "tuple" vs.toArray 0)).objs.size=kS at J0
 revert J0
 generalize ({ s with heap:=((s.heap.update a (Qw λ_=>(#[]:Array Value))).push (seqObj "tuple" vs.toArray 0)).push (seqObj "list" #[] 0) }:Shared)=s0;intro J0;unfold ksk_rest;refine Pf (SR ?_)
 first
  |rw[List.forIn_toArray]
  |(rw[<-Array.forIn_toList];simp only[List.toList_toArray])
 refine Pf (ksk_fold (λi s'=>∃ks e,ks.length=i/\J kS e1 ks e s') vs 0 s0 ⟨[],0,rfl,J0⟩ ?step ?done)
 case step=>
  rintro j x s' hx ⟨ks,e,hl,hJ⟩;have hj:j<vs.length:=(Pg.mp hx).1;have fg:ks.length=j:=by omega
  refine Pf (Sr (Rz (turn kS e1 ks e s' x (by rw[fg];exact hx) hJ) (λv da q=>?_) λ_ _ z=>z.elim));obtain⟨gk,pf⟩:=q
  try dsimp only
  have w2:=PR da.heap kS (Qw (·.push v));obtain⟨c2,di⟩:∃c2,(da.heap.update kS (Qw (·.push v))).get? kS=some (seqObj "list" (ks.toArray.push v) c2):=⟨_,get?_update_seq gk (·.push v)⟩;refine Pf (listUpdate_at gk rfl ?_ (by rw[Pq,QE];omega) (P6 (Nat.le_of_eq (Array.size_push ..)) (by rw[Pq,QE];omega)));refine Ph ⟨rfl,ks++[v],c2,by simp;omega,pf _ c2 w2 ?_⟩;rw[di];simp
 case done=>
  rintro s' ⟨ks,e,hl,hJ⟩;have fg:ks.length=vs.length:=by omega
  obtain⟨ko,ga,gk⟩:=c9 kS e1 ks e s' hJ;obtain⟨lt,tr,as,hk,ba,h⟩:=fin kS e1 ks e s' fg hJ
  try dsimp only
  refine Pf (listItems_at gk rfl ?_);exact NM (κ:=κ) lt fg i6 ko tr as gk ga hk ba h
end
open PySem PySem.Spec PyProof.Rows PySem.SeqAt
inductive PV where
 |non|bl (b:Bool)|int (i:Int)|str (x:Str)|tup (xs:List PV)|ref (n:Nat)|ty (n:String)|fl (xs:List PV)
mutual
def PV.beq:PV->PV->Bool
 |.non,.non=>true
 |.bl a,.bl b=>a == b
 |.int a,.int b=>a == b
 |.str a,.str b=>a == b
 |.tup a,.tup b=>PV.beqs a b
 |.ref a,.ref b=>a == b
 |.ty a,.ty b=>a == b
 |.fl a,.fl b=>PV.beqs a b
 |_,_=>false
def PV.beqs:List PV->List PV->Bool
 |[],[]=>true
 |x::xs,y::ys=>PV.beq x y&&PV.beqs xs ys
 |_,_=>false
end
mutual
theorem PV.beq_self:∀x:PV,PV.beq x x=true
 |.non=>rfl
 |.bl a=>by simp[PV.beq]
 |.int a=>by simp[PV.beq]
 |.str a=>by simp[PV.beq]
 |.tup a=>by simp only[PV.beq];exact PV.beqs_self a
 |.ref a=>by simp[PV.beq]
 |.ty a=>by simp[PV.beq]
 |.fl a=>by simp only[PV.beq];exact PV.beqs_self a
theorem PV.beqs_self:∀x:List PV,PV.beqs x x=true
 |[]=>rfl
 |x::xs=>by simp only[PV.beqs,PV.beq_self x,PV.beqs_self xs,Bool.and_self]
end
mutual
theorem PV.beq_eq:∀{x y:PV},PV.beq x y=true->x=y
 |.non,y,h=>by cases y <;> first|rfl|(simp[PV.beq]at h)
 |.bl a,y,h=>by cases y <;> first|(simp[PV.beq]at h;rw[h])|(simp[PV.beq]at h)
 |.int a,y,h=>by cases y <;> first|(simp[PV.beq]at h;rw[h])|(simp[PV.beq]at h)
 |.str a,y,h=>by cases y <;> first|(simp[PV.beq]at h;rw[h])|(simp[PV.beq]at h)
 |.tup a,y,h=>by
  cases y with
  |tup b=>simp only[PV.beq]at h;rw[PV.beqs_eq h]
  |_=>simp[PV.beq]at h
 |.ref a,y,h=>by cases y <;> first|(simp[PV.beq]at h;rw[h])|(simp[PV.beq]at h)
 |.ty a,y,h=>by cases y <;> first|(simp[PV.beq]at h;rw[h])|(simp[PV.beq]at h)
 |.fl a,y,h=>by
  cases y with
  |fl b=>simp only[PV.beq]at h;rw[PV.beqs_eq h]
  |_=>simp[PV.beq]at h
theorem PV.beqs_eq:∀{x y:List PV},PV.beqs x y=true->x=y
 |[],y,h=>by cases y <;> first|rfl|(simp[PV.beqs]at h)
 |x::xs,y,h=>by
  cases y with
  |nil=>simp[PV.beqs]at h
  |cons y ys=>
   simp only[PV.beqs,PF]at h;rw[PV.beq_eq h.1,PV.beqs_eq h.2]
end
instance:DecidableEq PV:=λx y=>match h:PV.beq x y with
 |true=>isTrue (PV.beq_eq h)
 |false=>isFalse λe=>by rw[e,PV.beq_self]at h;cases h
def PV.ky:Nat->PV->Bool
 |_,.int _=>true
 |_,.str _=>true
 |n+1,.tup xs=>xs.all (PV.ky n)
 |_,_=>false
section
variable(w:World)
mutual
def hsh:PV->Int
 |.int i=>Ir w (.inl i)
 |.str x=>Ir w (.inr x)
 |.tup xs=>reduceHash (Qy (qM xs))
 |_=>0
def qM:List PV->List Int
 |[]=>[]
 |x::xs=>hsh x::qM xs
end
end
mutual
def drw:PV->Nat
 |.tup xs=>zB xs+1
 |_=>1
def zB:List PV->Nat
 |[]=>0
 |x::xs=>drw x+zB xs
end
mutual
/-- the raw value is the key -/
def HR(h:Heap):PV->Value->Prop
 |.int i,v=>∃t,v=.int i t
 |.str x,v=>∃t,v=.str x t
 |.tup ps,v=>∃a its,v=.ref a/\IsTup h a its.toArray/\HRs h ps its
 |_,_=>False
def HRs(h:Heap):List PV->List Value->Prop
 |[],[]=>True
 |p::ps,v::vs=>HR h p v/\HRs h ps vs
 |[],_::_=>False
 |_::_,[]=>False
end
theorem HRs.length{h:Heap}:∀{ps:List PV}{vs:List Value},HRs h ps vs->ps.length=vs.length
 |[],[],_=>rfl
 |_::_,_::_,r=>congrArg (·+1) (HRs.length r.2)
 |[],_::_,r=>r.elim
 |_::_,[],r=>r.elim
theorem HRs.at{h:Heap}:∀{ps:List PV}{vs:List Value}{j:Nat}{p:PV},HRs h ps vs->ps[j]?=some p->∃v,vs[j]?=some v/\HR h p v
 |[],[],_,_,_,e=>by simp at e
 |q::_,v::_,0,p,r,e=>by
  have:q=p:=by simpa using e
  subst this;exact⟨v,rfl,r.1⟩
 |_::ps,_::vs,j+1,p,r,e=>by
  obtain⟨v,h1,h2⟩:=HRs.at (ps:=ps) (vs:=vs) (j:=j) (p:=p) r.2 (by simpa using e)
  exact⟨v,by simpa using h1,h2⟩
 |[],_::_,_,_,r,_=>r.elim
 |_::_,[],_,_,r,_=>r.elim
theorem CM{h:Heap}{x y:Array Value}(p:IsTup h a x)(q:IsTup h a y):x=y:=by
 obtain⟨o,ho,_,n,hd⟩:=p;obtain⟨o',cp,_,n',dq⟩:=q;obtain rfl:o=o':=PP (ho.symm.trans cp);rw[hd]at dq;injection dq
mutual
theorem HR.one{h:Heap}:∀{p q:PV}{v:Value},HR h p v->HR h q v->p=q
 |.int i,q,v,r,r'=>by
  obtain⟨t,rfl⟩:=r;cases q with
  |int j=>obtain⟨t',e⟩:=r';injection e with e;rw[e]
  |str j=>obtain⟨t',e⟩:=r';cases e
  |tup j=>obtain⟨_,_,e,_⟩:=r';cases e
  |_=>exact r'.elim
 |.str i,q,v,r,r'=>by
  obtain⟨t,rfl⟩:=r;cases q with
  |int j=>obtain⟨t',e⟩:=r';cases e
  |str j=>obtain⟨t',e⟩:=r';injection e with e;rw[e]
  |tup j=>obtain⟨_,_,e,_⟩:=r';cases e
  |_=>exact r'.elim
 |.tup ps,q,v,r,r'=>by
  obtain⟨a,its,rfl,p,rs⟩:=r;cases q with
  |int j=>obtain⟨t',e⟩:=r';cases e
  |str j=>obtain⟨t',e⟩:=r';cases e
  |tup qs=>
   obtain⟨b,its',e,p',qh⟩:=r';cases e
   have:its=its':=by simpa using congrArg Array.toList (CM p p')
   subst this;rw[HRs.one rs qh]
  |_=>exact r'.elim
 |.non,_,_,r,_=>r.elim
 |.bl _,_,_,r,_=>r.elim
 |.ref _,_,_,r,_=>r.elim
 |.ty _,_,_,r,_=>r.elim
 |.fl _,_,_,r,_=>r.elim
theorem HRs.one{h:Heap}:∀{ps qs:List PV}{vs:List Value},HRs h ps vs->HRs h qs vs->ps=qs
 |[],[],[],_,_=>rfl
 |p::ps,q::qs,v::vs,r,r'=>by rw[HR.one r.1 r'.1,HRs.one r.2 r'.2]
 |[],_::_,[],_,r=>r.elim
 |[],_,_::_,r,_=>r.elim
 |_::_,_,[],r,_=>r.elim
 |_::_,[],_::_,_,r=>r.elim
end
theorem AK{h:Heap}{d:Addr}{o:Obj}{es ep}{x:Array Value}(p:IsTup h a x)(ho:h.get? d=some o)(hd:o.data=.dict es ep)(hs:QN d h h'):IsTup h' a x:=by
 obtain⟨q,hq,hc,n,lg⟩:=p;have ne:a≠d:=by
  rintro rfl;obtain rfl:q=o:=PP (hq.symm.trans ho);rw[hd]at lg;cases lg
 exact⟨q,(hs.2 a ne).trans hq,hc,n,lg⟩
mutual
theorem HR.keep{h h':Heap}(k:∀a x,IsTup h a x->IsTup h' a x):∀{p:PV}{v:Value},HR h p v->HR h' p v
 |.int i,v,r=>r
 |.str i,v,r=>r
 |.tup ps,v,⟨a,its,e,p,rs⟩=>⟨a,its,e,k _ _ p,HRs.keep k rs⟩
 |.non,_,r=>r.elim
 |.bl _,_,r=>r.elim
 |.ref _,_,r=>r.elim
 |.ty _,_,r=>r.elim
 |.fl _,_,r=>r.elim
theorem HRs.keep{h h':Heap}(k:∀a x,IsTup h a x->IsTup h' a x):∀{ps:List PV}{vs:List Value},HRs h ps vs->HRs h' ps vs
 |[],[],_=>trivial
 |_::_,_::_,r=>⟨HR.keep k r.1,HRs.keep k r.2⟩
 |[],_::_,r=>r.elim
 |_::_,[],r=>r.elim
end
theorem Ec:∀(n:Nat){A:Around}{E:Value->Shared->Prop}{s:Shared}{p:PV}{v:Value}{Q:Int->Shared->Prop},p.ky n=true->A.units+n<cLine->HR s.heap p v->Q (hsh w p) { s with toks:=s.toks+drw p }->
  wpAny (model prog w) A (pyHash v) Q E s:=by
 intro n
 induction n with
 |zero=>
  intro A E s p v Q hk hu r h;cases p with
  |int i=>obtain⟨t,rfl⟩:=r;exact wpAny_pyHash_int h
  |str i=>obtain⟨t,rfl⟩:=r;exact wpAny_pyHash_str h
  |_=>cases hk
 |succ n ih=>
  intro A E s p v Q hk hu r h;cases p with
  |int i=>obtain⟨t,rfl⟩:=r;exact wpAny_pyHash_int h
  |str i=>obtain⟨t,rfl⟩:=r;exact wpAny_pyHash_str h
  |tup ps=>
   obtain⟨a,its,rfl,⟨o,ho,hc,m,hd⟩,rs⟩:=r;have kg:∀q∈ps,q.ky n=true:=P3.mp hk;have hT:s.TypeIs (.ref a) "tuple" := ⟨o,ho,hc⟩;unfold pyHash;unfold pyHashByItsType;refine Pf (wpAny_cRoomFor_or (.inr (show A.units<cLine by omega)) (Pf (wpAny_specialOf hT F.slot_tuple_hash.lookup ?_)))
   show wpAny _ _ (if((some (Value.builtin "tuple.__hash__"):Option Value) == some PU)=true then _ else _) Q E s
   rw[if_neg (show ¬ _ from by rw[beq_builtin_none];decide)]
   refine Pf (wpAny_specialOf hT F.slot_tuple_hash.lookup (show wpAny _ _ (callSpecialIfBoundUnlessNone? (.ref a) "__hash__" _ >>= _) Q E s from ?_))
   refine Pf (wpAny_callSpecialIfBoundUnlessNone?_slot hT F.slot_tuple_hash (Qf F.slot_tuple_hash hT F.entry_tuple_hash (show wpAny _ _ (Su (.ref a) >>= _) _ _ s from ?_) (F.args_tuple_hash_1 _)))
   refine Pf (wpAny_tupleItemsOf ho hd (Pf ?_));rw[<-Array.forIn_toList];refine wpAny_forIn_list _ (λrest (b:Array Int) s'=>∃left,HRs s.heap left rest/\(∀q∈left,q.ky n=true)/\b.toList++qM w left=qM w ps/\s'.heap=s.heap/\s'={ s with toks:=s'.toks }/\s'.toks+zB left=s.toks+zB ps) _ ?turn ?stop _ _ ⟨ps,rs,kg,rfl,rfl,rfl,rfl⟩
   case turn=>
    rintro x rest b s' ⟨left,rl,kl,eb,eh,es,et⟩;cases left with
    |nil=>exact rl.elim
    |cons q left=>
     have r1:HR s'.heap q x:=by rw[eh];exact rl.1
     refine Pf (ih (kl q Pm) (show A.units+1+n<cLine by omega) r1 (Ph ?_));refine⟨left,rl.2,λz hz=>kl z (Pj _ hz),?_,eh,?_,?_⟩
     ·rw[<-eb];simp[qM]
     ·rw[es]
     ·rw[<-et]
      show s'.toks+drw q+zB left=s'.toks+(drw q+zB left)
      omega
   case stop=>
    rintro b s' ⟨left,rl,kl,eb,eh,es,et⟩;cases left with
    |cons q left=>exact rl.elim
    |nil=>
     have y0:b.toList=qM w ps:=by rw[<-eb];simp[qM]
     have Ov:s'.toks=s.toks+zB ps:=et
     show wpAny _ _ (retInt (Qy b.toList)) _ _ _
     rw[y0,es];refine wpAny_ret_mkInt ?_
     show wpAny _ _ (if(decide (-(2:Int) ^ 63<=Qy (qM w ps))&&decide (Qy (qM w ps)<2 ^ 63))=true then _ else _) Q E _
     have h':Q (reduceHash (Qy (qM w ps))) { s with toks:=s.toks+(zB ps+1) }:=h;unfold reduceHash at h';rw[Ov]
     by_cases hr:(decide (-(2:Int) ^ 63<=Qy (qM w ps))&&decide (Qy (qM w ps)<2 ^ 63))=true
     ·rw[if_pos hr]at h'⊢;exact Ph (by simpa[Nat.add_assoc] using h')
     ·rw[if_neg hr]at h'⊢;exact Pf (SR (Ph (by simpa[Nat.add_assoc] using h')))
  |_=>cases hk
theorem Js:∀(n:Nat){A:Around}{s:Shared}{p q:PV}{v u:Value},p.ky n=true->q.ky n=true->A.units+n<cLine->HR s.heap p v->HR s.heap q u->RcAt A s v u (decide (p=q)):=by
 intro n
 induction n with
 |zero=>
  intro A s p q v u hp hq hu r r';cases p with
  |int i=>
   obtain⟨t,rfl⟩:=r;cases q with
   |int j=>obtain⟨t',rfl⟩:=r';have:=RcAt.int_int (A:=A) (s:=s) i t j t';rwa[show decide (PV.int i=PV.int j)=(i == j) by simp[So]]
   |str j=>obtain⟨t',rfl⟩:=r';exact RcAt.int_str i t j t'
   |_=>cases hq
  |str i=>
   obtain⟨t,rfl⟩:=r;cases q with
   |int j=>obtain⟨t',rfl⟩:=r';exact RcAt.str_int i t j t'
   |str j=>obtain⟨t',rfl⟩:=r';have:=RcAt.str_str (A:=A) (s:=s) i t j t';rwa[show decide (PV.str i=PV.str j)=(i == j) by simp[So]]
   |_=>cases hq
  |_=>cases hp
 |succ n ih=>
  intro A s p q v u hp hq hu r r';cases p with
  |int i=>
   obtain⟨t,rfl⟩:=r;cases q with
   |int j=>obtain⟨t',rfl⟩:=r';have:=RcAt.int_int (A:=A) (s:=s) i t j t';rwa[show decide (PV.int i=PV.int j)=(i == j) by simp[So]]
   |str j=>obtain⟨t',rfl⟩:=r';exact RcAt.int_str i t j t'
   |tup js=>obtain⟨b,its,rfl,p',_⟩:=r';exact RcAt.int_tuple i t p' (by omega)
   |_=>cases hq
  |str i=>
   obtain⟨t,rfl⟩:=r;cases q with
   |int j=>obtain⟨t',rfl⟩:=r';exact RcAt.str_int i t j t'
   |str j=>obtain⟨t',rfl⟩:=r';have:=RcAt.str_str (A:=A) (s:=s) i t j t';rwa[show decide (PV.str i=PV.str j)=(i == j) by simp[So]]
   |tup js=>obtain⟨b,its,rfl,p',_⟩:=r';exact RcAt.str_tuple i t p' (by omega)
   |_=>cases hq
  |tup ps=>
   obtain⟨a,its,rfl,ta,rs⟩:=r;cases q with
   |int j=>obtain⟨t',rfl⟩:=r';exact RcAt.tuple_int j t' ta (by omega)
   |str j=>obtain⟨t',rfl⟩:=r';exact RcAt.tuple_str j t' ta (by omega)
   |tup qs=>
    obtain⟨b,its',rfl,tb,qh⟩:=r';have kp:∀z∈ps,z.ky n=true:=P3.mp hp;have kq:∀z∈qs,z.ky n=true:=P3.mp hq;have l1:=rs.length;have l2:=qh.length;have key:=RcAt.tuples (A:=A) (e:=λj=>match ps[j]?,qs[j]? with|some x,some y=>decide (x=y)|_,_=>false) ta tb (by omega) (λj h1 h2=>by
     have ie:j<ps.length:=by simp at h1;omega
     have d8:j<qs.length:=by simp at h2;omega
     have g1:ps[j]?=some ps[j]:=by simp[ie]
     have g2:qs[j]?=some qs[j]:=by simp[d8]
     obtain⟨xu,i8,cu⟩:=rs.at g1;obtain⟨yu,iw,bt⟩:=qh.at g2;have e1:its.toArray[j]=xu:=by simpa using(Pg.mp i8).2
     have e2:its'.toArray[j]=yu:=by simpa using(Pg.mp iw).2
     rw[e1,e2];simp only[g1,g2];refine iA (ih (kp _ (List.getElem_mem ie)) (kq _ (List.getElem_mem d8)) (show A.units+1+n<cLine by omega) cu bt) (λev=>?_) (λf t e=>?_)
     ·subst ev;rw[HR.one cu bt];exact decide_eq_true rfl
     ·subst e;generalize ps[j]=z at cu;cases z with
      |int i=>obtain⟨_,e⟩:=cu;cases e
      |str i=>obtain⟨_,e⟩:=cu;cases e
      |tup i=>obtain⟨_,_,e,_⟩:=cu;cases e
      |_=>exact cu.elim)
    have sz:((Qb (min its.toArray.size its'.toArray.size)).all (λj=>match ps[j]?,qs[j]? with|some x,some y=>decide (x=y)|_,_=>false)&&its.toArray.size == its'.toArray.size)=decide (PV.tup ps=PV.tup qs):=by
     have a1:its.toArray.size=ps.length:=by simp;omega
     have a2:its'.toArray.size=qs.length:=by simp;omega
     rw[a1,a2,Rk];simp only[PF,P3,List.mem_range,beq_iff_eq,decide_eq_true_eq,PV.tup.injEq];constructor
     ·rintro⟨hall,hlen⟩;apply List.ext_getElem hlen;intro i hi au;have:=hall i (by omega);simpa[hi,au] using this
     ·rintro rfl;refine⟨λx hx=>?_,rfl⟩;have:x<ps.length:=by omega
      simp[this]
    rw[<-sz];exact key
   |_=>cases hq
  |_=>cases hp
variable{p:PV}
theorem HR.noflt{h:Heap}{v:Value}(r:HR h p v):∀f t,v≠.float f t:=λf t e=>by
 subst e;cases p with
 |int i=>obtain⟨_,e⟩:=r;cases e
 |str i=>obtain⟨_,e⟩:=r;cases e
 |tup i=>obtain⟨_,_,e,_⟩:=r;cases e
 |_=>exact r.elim
theorem Jt{q:PV}{v:Value}(hp:p.ky n=true)(hq:q.ky n=true)(hu:A.units+n<cLine)(r:HR s.heap p v)(r':HR s.heap q u):EqAt A s v u (decide (p=q)):=
 iA (Js n hp hq hu r r') (λev=>by subst ev;rw[HR.one r r'];exact decide_eq_true rfl) r.noflt
theorem CN:∀(n m:Nat){A:Around}{E:Value->Shared->Prop}{s:Shared}{p:PV}{v:Value}{Q:Bool->Shared->Prop},p.ky n=true->n<=m->HR s.heap p v->Q true s->wpAny (model prog w) A (eqIsQuiet m v) Q E s:=by
 intro n
 induction n with
 |zero=>
  intro m A E s p v Q hk hm r h;cases p with
  |int i=>obtain⟨t,rfl⟩:=r;rw[eqIsQuiet_byValue _ rfl];exact Ph h
  |str i=>obtain⟨t,rfl⟩:=r;rw[eqIsQuiet_byValue _ rfl];exact Ph h
  |_=>cases hk
 |succ n ih=>
  intro m A E s p v Q hk hm r h;cases p with
  |int i=>obtain⟨t,rfl⟩:=r;rw[eqIsQuiet_byValue _ rfl];exact Ph h
  |str i=>obtain⟨t,rfl⟩:=r;rw[eqIsQuiet_byValue _ rfl];exact Ph h
  |tup ps=>
   obtain⟨a,its,rfl,⟨o,ho,hc,m',hd⟩,rs⟩:=r;have kg:∀q∈ps,q.ky n=true:=P3.mp hk;have hT:s.TypeIs (.ref a) "tuple" := ⟨o,ho,hc⟩;obtain⟨m,rfl⟩:∃j,m=j+1:=⟨m-1,by omega⟩;unfold eqIsQuiet;refine Pf (wpAny_specialOf hT F.slot_tuple_eq.lookup (show wpAny _ _ (isInstance (.ref a) (.type "tuple") >>= _) _ _ s from ?_))
   refine Pf (wpAny_isInstance hT isSubtype_tuple_tuple ?_);simp only[Bool.not_true,Qk,if_false];refine Pf (wpAny_seqItems ho hd (Pf (show wpAny _ _ (forIn its.toArray _ _) _ _ s from ?_)));rw[<-Array.forIn_toList]
   refine wpAny_forIn_list _ (λrest r s'=>r.1=none/\s'=s/\∃left,HRs s.heap left rest/\∀q∈left,q.ky n=true) _ ?_ ?_ _ _ ⟨rfl,rfl,ps,rs,kg⟩
   ·rintro v rest r s' ⟨hr,rfl,left,rl,kl⟩;cases left with
    |nil=>exact rl.elim
    |cons q left=>
     refine Pf (ih m (kl q Pm) (by omega) rl.1 ?_);simp only[Bool.not_true,Qk,if_false];exact Ph ⟨rfl,rfl,left,rl.2,λz hz=>kl z (Pj _ hz)⟩
   ·rintro⟨r1,r2⟩ s' ⟨hr,rfl,_⟩;simp only at hr;subst hr;exact Ph h
  |_=>cases hk
def mZ(prog:Program)(w:World):HeapKind prog w PV where
 is:=λh p a=>p.ky 6=true/\HR h p (.ref a)
 hash:=hsh w
 draws:=drw
 room:=λA=>A.units+6<cLine
 inj:=λx y=>HR.one x.2 y.2
 keeps:=λx ho hd hs=>⟨x.1,HR.keep (λa it p=>AK p ho hd hs) x.2⟩
 pyHash:=λhu x h=>Ec 6 x.1 hu x.2 h
 eqBool:=λhu x y h=>Jt x.1 y.1 hu x.2 y.2 _ _ _ _ h
 quiet:=λx h=>CN 6 8 x.1 (by omega) x.2 h
def dDO(w:World)(a:Addr)(ks:List (PV×Addr×V)):HO:=.ext λh=>ks.length<=Pt/\(a == Qm)=false/\∃xs:List (PV×Addr×Value),
 Paired (λ(p:PV×Addr×V)(q:PV×Addr×Value)=>p.1=q.1/\p.2.1=q.2.1/\RelV p.2.2 q.2.2) ks xs/\
 ∃o es ep,h.get? a=some o/\o.ExactDict/\o.data=.dict es ep/\es.toList=xs.map (λx=>(⟨hsh w x.1,.ref x.2.1,x.2.2⟩:QX))/\(xs.map (·.1)).Nodup
def Bu(kd:Nat)(v d:Addr):HO:=.ext λh=>match kd with
 |0=>h.IsItemsView v d
 |1=>h.IsValuesView v d
 |_=>∃o,h.get? v=some o/\o.cls=.type "dict_keys" /\ o.data=.fields #[.ref d]
open PySem PySem.Spec PyProof.Rows
inductive MO where
 |lst (xs:List PV)
 |dK (kvs:List (Key×PV))
 |ins (C:Str) (fs:List (Str×PV))
 |dD (kvs:List (PV×PV))
 |vw (kd d:Nat)
 |fz (o:MO)
abbrev PH:=List MO
abbrev Ev:=List (Option PV)
structure PX where
 cls:Str
 fs:List (Str×PV)
inductive Rs(α:Type) where
 |ok (a:α) (h:PH)
 |exc (x:PX) (h:PH)
 |bad
inductive Fl where
 |nx (δ:Ev) (h:PH)
 |rt (p:PV) (h:PH)
 |bk (δ:Ev) (h:PH)
 |ct (δ:Ev) (h:PH)
 |exc (x:PX) (h:PH)
 |bad
abbrev Me:=Ev->PH->Rs PV
abbrev Ms:=Ev->PH->Fl
abbrev Fn:=List PV->PH->Rs PV
def Rs.bind{α β:Type}(r:Rs α)(f:α->PH->Rs β):Rs β:=match r with
 |.ok a h=>f a h
 |.exc x h=>.exc x h
 |.bad=>.bad
@[simp]theorem Rs.bind_ok{α β:Type}(a:α)(h:PH)(f:α->PH->Rs β):(Rs.ok a h).bind f=f a h:=rfl
@[simp]theorem Rs.bind_exc{α β:Type}(x:PX)(h:PH)(f:α->PH->Rs β):(Rs.exc x h:Rs α).bind f=.exc x h:=rfl
@[simp]theorem Rs.bind_bad{α β:Type}(f:α->PH->Rs β):(Rs.bad:Rs α).bind f=.bad:=rfl
structure MC where
 K:Pi
 cl:Str->Option Addr
 bs:List Str
 ex:List Addr->Hp->PX->Prop
 w:World
def SqF(K:Pi)(H:Hp)(a:Addr)(xs:List V):Prop:=
 (∃o,H a=some (.frz o (.lst xs)))\/
  ∃(o:Obj)(its:Array Value)(n:Nat),K.lookup a=some o/\o.cls=.type "list" /\ o.dict=none/\o.data=.seq its n/\its.size<=Pt/\aJ xs its.toList
theorem SqF.sq{xs:List V}(h:SqF K H a xs):SqL K H a xs:=by
 rcases h with⟨o,h⟩|h
 ·exact .inl (.inr ⟨o,h⟩)
 ·exact .inr h
def Kp(H H':Hp):Prop:=jA H H'/\∀a o u,H a=some (.frz o u)->H' a=some (.frz o u)
theorem Kp.refl(H:Hp):Kp H H:=⟨jA.refl H,λ_ _ _ h=>h⟩
theorem Kp.trans(a:Kp H H1)(b:Kp H1 H2):Kp H H2:=⟨a.1.trans b.1,λc o u h=>b.2 c o u (a.2 c o u h)⟩
theorem Kp.same(s:DT H H'):Kp H H':=⟨jA.same s,λ_ _ _ h=>s _ _ h⟩
theorem Kp.new{o:HO}(h:H a=none):Kp H (upd H a o):=Kp.same (DT.upd h)
theorem Kp.upd{p:Addr}{o:HO}(h:pZ (H p)):Kp H (upd H p o):=⟨jA.upd h,λa ob u q=>by
 have ne:a≠p:=by
  rintro rfl;rw[q]at h;exact h
 rw[aE ne];exact q⟩
theorem Kp.lst{H:Hp}{p:Addr}{o:HO}{xs:List V}(h:H p=some (.lst xs)):Kp H (L2.upd H p o):=Kp.upd (by rw[h];trivial)
theorem Kp.dK{H:Hp}{p:Addr}{o:HO}{xs:List (Key×V)}(h:H p=some (.dK xs)):Kp H (L2.upd H p o):=Kp.upd (by rw[h];trivial)
theorem Kp.sq{xs:List V}(t:Kp H H')(h:SqT K H a xs):SqT K H' a xs:=t.1.sq h
theorem Kp.sf{xs:List V}(t:Kp H H')(h:SqF K H a xs):SqF K H' a xs:=by
 rcases h with⟨o,h⟩|h
 ·exact .inl ⟨o,t.2 _ _ _ h⟩
 ·exact .inr h
section
variable(C:MC)(φ:List Addr)(H:Hp)
mutual
def RV:PV->V->Prop
 |.non,v=>v=.non
 |.bl b,v=>v=.bl b
 |.int i,v=>v=.int i
 |.str x,v=>v=.str x
 |.ty n,v=>v=.ty n
 |.tup ps,v=>∃a vs,v=.ref a/\SqT C.K H a vs/\RVs ps vs
 |.ref n,v=>∃a,v=.ref a/\φ[n]?=some a
 |.fl ps,v=>∃a vs,v=.ref a/\SqF C.K H a vs/\RVs ps vs
def RVs:List PV->List V->Prop
 |[],[]=>True
 |p::ps,v::vs=>RV p v/\RVs ps vs
 |[],_::_=>False
 |_::_,[]=>False
end
def RKv{κ:Type}:List (κ×PV)->List (κ×V)->Prop:=Paired λp q=>p.1=q.1/\RV C φ H p.2 q.2
def RKd:List (PV×PV)->List (PV×Addr×V)->Prop:=Paired λp q=>p.1=q.1/\p.1.ky 6=true/\RV C φ H p.1 (.ref q.2.1)/\RV C φ H p.2 q.2.2
def RO(a:Addr):MO->Prop
 |.lst ps=>∃vs,H a=some (.lst vs)/\RVs C φ H ps vs
 |.dK kvs=>∃ks,H a=some (.dK ks)/\RKv C φ H kvs ks
 |.ins n fs=>∃c dx ks,C.cl n=some c/\H a=some (.ins c dx ks)/\RKv C φ H fs ks
 |.dD kvs=>∃ks,H a=some (dDO C.w a ks)/\RKd C φ H kvs ks
 |.vw kd d=>∃b,φ[d]?=some b/\H a=some (Bu kd a b)
 |.fz (.dK kvs)=>∃ob ks,H a=some (.frz ob (.dK ks))/\RKv C φ H kvs ks
 |.fz (.dD kvs)=>∃ob ks,H a=some (.frz ob (dDO C.w a ks))/\RKd C φ H kvs ks
 |.fz _=>False
structure RH(h:PH):Prop where
 len:φ.length=h.length
 nd:φ.Nodup
 at':∀(n:Nat)(a:Addr)(o:MO),φ[n]?=some a->h[n]?=some o->RO C φ H a o
def RE(δ:Ev)(σ:St):Prop:=δ.length=σ.length/\∀(i:Nat)(p:PV),δ[i]?=some (some p)->∃v,σ[i]?=some (some v)/\RV C φ H p v
end
theorem dQ{α:Type}{l l':List α}(p:l<+:l'){a:α}(h:l[n]?=some a):l'[n]?=some a:=by
 obtain⟨t,rfl⟩:=p;have:=(Pg.mp h).1;rw[Ql this];exact h
def Kq(H H':Hp):Prop:=jA H H'/\∀a o xs,H a=some (.frz o (.lst xs))->H' a=some (.frz o (.lst xs))
theorem Kp.q(t:Kp H H'):Kq H H':=⟨t.1,λa o xs h=>t.2 a o _ h⟩
theorem Kq.sq{xs:List V}(t:Kq H H')(h:SqT K H a xs):SqT K H' a xs:=t.1.sq h
theorem Kq.sf{xs:List V}(t:Kq H H')(h:SqF K H a xs):SqF K H' a xs:=by
 rcases h with⟨o,h⟩|h
 ·exact .inl ⟨o,t.2 _ _ _ h⟩
 ·exact .inr h
mutual
theorem RV.monoQ(p:φ<+:φ')(t:Kq H H'):∀{x:PV}{v:V},RV C φ H x v->RV C φ' H' x v
 |.non,_,h=>h
 |.bl _,_,h=>h
 |.int _,_,h=>h
 |.str _,_,h=>h
 |.ty _,_,h=>h
 |.tup _,_,⟨a,vs,e,q,r⟩=>⟨a,vs,e,t.sq q,RVs.monoQ p t r⟩
 |.ref _,_,⟨a,e,q⟩=>⟨a,e,dQ p q⟩
 |.fl _,_,⟨a,vs,e,q,r⟩=>⟨a,vs,e,t.sf q,RVs.monoQ p t r⟩
theorem RVs.monoQ(p:φ<+:φ')(t:Kq H H'):∀{xs:List PV}{vs:List V},RVs C φ H xs vs->RVs C φ' H' xs vs
 |[],[],_=>trivial
 |_::_,_::_,⟨h,r⟩=>⟨RV.monoQ p t h,RVs.monoQ p t r⟩
 |[],_::_,h=>h.elim
 |_::_,[],h=>h.elim
end
variable{C:MC}{φ φ':List Addr}
theorem RV.mono(p:φ<+:φ')(t:Kp H H'){x:PV}(h:RV C φ H x v):RV C φ' H' x v:=RV.monoQ p t.q h
variable{xs:List PV}
theorem RVs.mono(p:φ<+:φ')(t:Kp H H')(h:RVs C φ H xs vs):RVs C φ' H' xs vs:=RVs.monoQ p t.q h
theorem RVs.length:∀{xs:List PV}{vs:List V},RVs C φ H xs vs->xs.length=vs.length
 |[],[],_=>rfl
 |_::_,_::_,⟨_,r⟩=>by simp[RVs.length r]
 |[],_::_,h=>h.elim
 |_::_,[],h=>h.elim
theorem RVs.get:∀{xs:List PV}{vs:List V}{i:Nat}{v:V},RVs C φ H xs vs->vs[i]?=some v->∃x,xs[i]?=some x/\RV C φ H x v
 |[],[],_,_,_,e=>by simp at e
 |x::_,w::_,0,v,⟨h,_⟩,e=>by
  have:w=v:=by simpa using e
  subst this;exact⟨x,rfl,h⟩
 |_::xs,_::vs,i+1,v,⟨_,r⟩,e=>by
  obtain⟨x,h1,h2⟩:=RVs.get (xs:=xs) (vs:=vs) (i:=i) (v:=v) r (by simpa using e)
  exact⟨x,by simpa using h1,h2⟩
 |[],_::_,_,_,h,_=>h.elim
 |_::_,[],_,_,h,_=>h.elim
theorem RVs.at:∀{xs:List PV}{vs:List V}{i:Nat}{x:PV},RVs C φ H xs vs->xs[i]?=some x->∃v,vs[i]?=some v/\RV C φ H x v
 |[],[],_,_,_,e=>by simp at e
 |x::_,w::_,0,x',⟨h,_⟩,e=>by
  have:x=x':=by simpa using e
  subst this;exact⟨w,rfl,h⟩
 |_::xs,_::vs,i+1,x,⟨_,r⟩,e=>by
  obtain⟨v,h1,h2⟩:=RVs.at (xs:=xs) (vs:=vs) (i:=i) (x:=x) r (by simpa using e)
  exact⟨v,by simpa using h1,h2⟩
 |[],_::_,_,_,h,_=>h.elim
 |_::_,[],_,_,h,_=>h.elim
theorem RVs.append:∀{xs ys:List PV}{vs us:List V},RVs C φ H xs vs->RVs C φ H ys us->RVs C φ H (xs++ys) (vs++us)
 |[],_,[],_,_,h=>h
 |_::_,_,_::_,_,⟨h,r⟩,h'=>⟨h,RVs.append r h'⟩
 |[],_,_::_,_,h,_=>h.elim
 |_::_,_,[],_,h,_=>h.elim
theorem RVs.snoc{x:PV}(r:RVs C φ H xs vs)(h:RV C φ H x v):RVs C φ H (xs++[x]) (vs++[v]):=r.append ⟨h,trivial⟩
theorem RVs.drop:∀{xs:List PV}{vs:List V}(n:Nat),RVs C φ H xs vs->RVs C φ H (xs.drop n) (vs.drop n)
 |_,_,0,h=>h
 |[],[],_+1,_=>trivial
 |_::_,_::_,n+1,⟨_,r⟩=>RVs.drop n r
 |[],_::_,_+1,h=>h.elim
 |_::_,[],_+1,h=>h.elim
theorem RVs.take:∀{xs:List PV}{vs:List V}(n:Nat),RVs C φ H xs vs->RVs C φ H (xs.take n) (vs.take n)
 |[],[],0,_=>trivial
 |_::_,_::_,0,_=>trivial
 |[],[],_+1,_=>trivial
 |_::_,_::_,n+1,⟨h,r⟩=>⟨h,RVs.take n r⟩
 |[],_::_,_,h=>h.elim
 |_::_,[],_,h=>h.elim
theorem RVs.set{x:PV}(h:RV C φ H x v):∀{xs:List PV}{vs:List V}(n:Nat),RVs C φ H xs vs->RVs C φ H (xs.set n x) (vs.set n v)
 |[],[],_,_=>trivial
 |_::_,_::_,0,⟨_,r⟩=>⟨h,r⟩
 |_::_,_::_,n+1,⟨q,r⟩=>⟨q,RVs.set h n r⟩
 |[],_::_,_,h=>h.elim
 |_::_,[],_,h=>h.elim
theorem RVs.reverse:∀{xs:List PV}{vs:List V},RVs C φ H xs vs->RVs C φ H xs.reverse vs.reverse
 |[],[],_=>trivial
 |_::_,_::_,⟨h,r⟩=>by simp only[List.reverse_cons];exact(RVs.reverse r).append ⟨h,trivial⟩
 |[],_::_,h=>h.elim
 |_::_,[],h=>h.elim
theorem RKv.monoQ{κ:Type}(p:φ<+:φ')(t:Kq H H'){x:List (κ×PV)}{v:List (κ×V)}(h:RKv C φ H x v):RKv C φ' H' x v:=Paired.mapP h λ_ _ q=>⟨q.1,q.2.monoQ p t⟩
theorem RKd.monoQ(p:φ<+:φ')(t:Kq H H'){x:List (PV×PV)}{v:List (PV×Addr×V)}(h:RKd C φ H x v):RKd C φ' H' x v:=Paired.mapP h λ_ _ q=>⟨q.1,q.2.1,q.2.2.1.monoQ p t,q.2.2.2.monoQ p t⟩
theorem RKv.mono{κ:Type}(p:φ<+:φ')(t:Kp H H'){x:List (κ×PV)}{v:List (κ×V)}(h:RKv C φ H x v):RKv C φ' H' x v:=Paired.mapP h λ_ _ q=>⟨q.1,q.2.mono p t⟩
theorem RKd.mono(p:φ<+:φ')(t:Kp H H'){x:List (PV×PV)}{v:List (PV×Addr×V)}(h:RKd C φ H x v):RKd C φ' H' x v:=Paired.mapP h λ_ _ q=>⟨q.1,q.2.1,q.2.2.1.mono p t,q.2.2.2.mono p t⟩
variable{δ:Ev}
theorem RE.mono(p:φ<+:φ')(t:Kp H H')(h:RE C φ H δ σ):RE C φ' H' δ σ:=⟨h.1,λi x e=>let ⟨v,q,r⟩:=h.2 i x e;⟨v,q,r.mono p t⟩⟩
theorem RE.set{x:PV}(h:RE C φ H δ σ)(r:RV C φ H x v)(i:Nat):RE C φ H (δ.set i (some x)) (σ.set i (some v)):=by
 refine⟨by rw[QG,QG];exact h.1,λj p e=>?_⟩
 by_cases hj:i=j
 ·subst hj
  by_cases hl:i<δ.length
  ·rw[QQ hl]at e;cases e
   exact⟨v,by rw[QQ (by rw[<-h.1];exact hl)],r⟩
  ·rw[RI (by rw[QG];omega)]at e;cases e
 ·rw[PQ hj]at e;rw[PQ hj];exact h.2 j p e
variable{o:MO}
theorem RO.stayQ(p:φ<+:φ')(t:Kq H H')(e:H' a=H a)(h:RO C φ H a o):RO C φ' H' a o:=by
 cases o with
 |lst ps=>obtain⟨vs,q,r⟩:=h;exact⟨vs,e.trans q,r.monoQ p t⟩
 |dK ps=>obtain⟨vs,q,r⟩:=h;exact⟨vs,e.trans q,r.monoQ p t⟩
 |ins n fs=>obtain⟨c,dx,ks,hc,q,r⟩:=h;exact⟨c,dx,ks,hc,e.trans q,r.monoQ p t⟩
 |dD kvs=>obtain⟨ks,q,r⟩:=h;exact⟨ks,e.trans q,r.monoQ p t⟩
 |vw kd d=>obtain⟨b,hb,q⟩:=h;exact⟨b,dQ p hb,e.trans q⟩
 |fz o=>
  cases o with
  |dK kvs=>obtain⟨ob,ks,q,r⟩:=h;exact⟨ob,ks,e.trans q,r.monoQ p t⟩
  |dD kvs=>obtain⟨ob,ks,q,r⟩:=h;exact⟨ob,ks,e.trans q,r.monoQ p t⟩
  |_=>exact h.elim
theorem RO.stay(p:φ<+:φ')(t:Kp H H')(e:H' a=H a)(h:RO C φ H a o):RO C φ' H' a o:=h.stayQ p t.q e
theorem RO.some(h:RO C φ H a o):∃u,H a=some u:=by
 cases o with
 |lst ps=>obtain⟨vs,q,r⟩:=h;exact⟨_,q⟩
 |dK ps=>obtain⟨vs,q,r⟩:=h;exact⟨_,q⟩
 |ins n fs=>obtain⟨c,dx,ks,hc,q,r⟩:=h;exact⟨_,q⟩
 |dD kvs=>obtain⟨ks,q,r⟩:=h;exact⟨_,q⟩
 |vw kd d=>obtain⟨b,hb,q⟩:=h;exact⟨_,q⟩
 |fz o=>
  cases o with
  |dK kvs=>obtain⟨ob,ks,q,r⟩:=h;exact⟨_,q⟩
  |dD kvs=>obtain⟨ob,ks,q,r⟩:=h;exact⟨_,q⟩
  |_=>exact h.elim
variable{h:PH}
theorem RH.get(r:RH C φ H h)(e:h[n]?=some o):∃a,φ[n]?=some a/\RO C φ H a o:=by
 have hn:=(Pg.mp e).1;have:n<φ.length:=by rw[r.len];exact hn
 exact⟨φ[n],by simp[this],r.at' n _ o (by simp[this]) e⟩
theorem RH.tracked(r:RH C φ H h)(e:φ[n]?=some a):∃u,H a=some u:=by
 have hn:=(Pg.mp e).1;have:n<h.length:=by rw[<-r.len];exact hn
 exact(r.at' n a h[n] e (by simp[this])).some
theorem RH.aside(r:RH C φ H h){o:HO}(e:H a=none):RH C φ (upd H a o) h:=
 ⟨r.len,r.nd,λn b ob h1 h2=>by
  have q:=r.at' n b ob h1 h2;obtain⟨u,hu⟩:=q.some;exact q.stay (Po) (Kp.new e) (aE (cB hu e))⟩
theorem RH.new(r:RH C φ H h){u:HO}(e:H a=none)(q:RO C (φ++[a]) (upd H a u) a o):RH C (φ++[a]) (upd H a u) (h++[o]):=by
 refine⟨by simp[r.len],?_,λn b ob h1 h2=>?_⟩
 ·rw[Qx];refine⟨r.nd,by simp,λx hx y hy z=>?_⟩;rw[Pz]at hy;subst hy z;obtain⟨n,hn⟩:=List.mem_iff_getElem?.mp hx;obtain⟨u',hu⟩:=r.tracked hn;rw[e]at hu;cases hu
 ·by_cases hn:n<φ.length
  ·rw[Ql hn]at h1;rw[Ql (by rw[<-r.len];exact hn)]at h2;have q':=r.at' n b ob h1 h2;obtain⟨u',hu⟩:=q'.some;exact q'.stay (Qc _ _) (Kp.new e) (aE (cB hu e))
  ·have qi:n=φ.length:=by
    have:=(Pg.mp h1).1;simp at this;omega
   subst qi;rw[QM (Pk _),Nat.sub_self]at h1;rw[r.len,QM (Pk _),Nat.sub_self]at h2;cases h1
   cases h2
   exact q
theorem RH.write(r:RH C φ H h){u:HO}(e:φ[n]?=some a)(t:pZ (H a))(q:RO C φ (upd H a u) a o):RH C φ (upd H a u) (h.set n o):=by
 refine⟨by rw[QG];exact r.len,r.nd,λm b ob h1 h2=>?_⟩
 by_cases hm:n=m
 ·subst hm;rw[e]at h1;cases h1;have hl:n<h.length:=by rw[<-r.len];exact(Pg.mp e).1
  rw[QQ hl]at h2;cases h2
  exact q
 ·rw[PQ hm]at h2;have hb:b≠a:=λz=>by
   subst z;exact hm ((List.getElem?_inj (Pg.mp e).1 r.nd).mp (e.trans h1.symm))
  exact(r.at' m b ob h1 h2).stay Po (Kp.upd t) (aE hb)
section
variable(C:MC)(φ:List Addr)(H:Hp)
def post(r:Rs PV)(Q:VK):Prop:=match r with
 |.ok p h=>∀φ' v H',φ<+:φ'->Kp H H'->RH C φ' H' h->RV C φ' H' p v->Q v H'
 |.exc x h=>∀φ' H',φ<+:φ'->Kp H H'->RH C φ' H' h->C.ex φ' H' x
 |.bad=>False
def bA(r:Rs Bool)(Q:Bool->Hp->Prop):Prop:=match r with
 |.ok b h=>∀φ' H',φ<+:φ'->Kp H H'->RH C φ' H' h->Q b H'
 |.exc x h=>∀φ' H',φ<+:φ'->Kp H H'->RH C φ' H' h->C.ex φ' H' x
 |.bad=>False
def postA(r:Rs (List PV))(Q:List V->Hp->Prop):Prop:=match r with
 |.ok ps h=>∀φ' vs H',φ<+:φ'->Kp H H'->RH C φ' H' h->RVs C φ' H' ps vs->Q vs H'
 |.exc x h=>∀φ' H',φ<+:φ'->Kp H H'->RH C φ' H' h->C.ex φ' H' x
 |.bad=>False
def bJ(r:Fl)(D:Ends):Prop:=match r with
 |.nx δ h=>∀φ' σ H',φ<+:φ'->Kp H H'->RH C φ' H' h->RE C φ' H' δ σ->D.nx σ H'
 |.rt p h=>∀φ' v H',φ<+:φ'->Kp H H'->RH C φ' H' h->RV C φ' H' p v->D.rt v H'
 |.bk δ h=>∀φ' σ H',φ<+:φ'->Kp H H'->RH C φ' H' h->RE C φ' H' δ σ->D.bk σ H'
 |.ct δ h=>∀φ' σ H',φ<+:φ'->Kp H H'->RH C φ' H' h->RE C φ' H' δ σ->D.ct σ H'
 |.exc x h=>∀φ' H',φ<+:φ'->Kp H H'->RH C φ' H' h->C.ex φ' H' x
 |.bad=>False
end
variable{φ1:List Addr}
theorem post.weak{r:Rs PV}{Q:VK}(p:φ<+:φ1)(t:Kp H H1)(h:post C φ H r Q):post C φ1 H1 r Q:=by
 cases r with
 |ok a h'=>exact λφ' v H' p' t'=>h φ' v H' (p.trans p') (t.trans t')
 |exc a h'=>exact λφ' H' p' t'=>h φ' H' (p.trans p') (t.trans t')
 |bad=>exact h
theorem bA.weak{r:Rs Bool}{Q:Bool->Hp->Prop}(p:φ<+:φ1)(t:Kp H H1)(h:bA C φ H r Q):bA C φ1 H1 r Q:=by
 cases r with
 |ok a h'=>exact λφ' H' p' t'=>h φ' H' (p.trans p') (t.trans t')
 |exc a h'=>exact λφ' H' p' t'=>h φ' H' (p.trans p') (t.trans t')
 |bad=>exact h
theorem postA.weak{r:Rs (List PV)}{Q:List V->Hp->Prop}(p:φ<+:φ1)(t:Kp H H1)(h:postA C φ H r Q):postA C φ1 H1 r Q:=by
 cases r with
 |ok a h'=>exact λφ' v H' p' t'=>h φ' v H' (p.trans p') (t.trans t')
 |exc a h'=>exact λφ' H' p' t'=>h φ' H' (p.trans p') (t.trans t')
 |bad=>exact h
theorem bJ.weak{r:Fl}{D:Ends}(p:φ<+:φ1)(t:Kp H H1)(h:bJ C φ H r D):bJ C φ1 H1 r D:=by
 cases r with
 |nx a h'=>exact λφ' v H' p' t'=>h φ' v H' (p.trans p') (t.trans t')
 |rt a h'=>exact λφ' v H' p' t'=>h φ' v H' (p.trans p') (t.trans t')
 |bk a h'=>exact λφ' v H' p' t'=>h φ' v H' (p.trans p') (t.trans t')
 |ct a h'=>exact λφ' v H' p' t'=>h φ' v H' (p.trans p') (t.trans t')
 |exc a h'=>exact λφ' H' p' t'=>h φ' H' (p.trans p') (t.trans t')
 |bad=>exact h
theorem post.imp{r:Rs PV}{Q Q':VK}(h:post C φ H r Q)(i:∀v H',Q v H'->Q' v H'):post C φ H r Q':=by
 cases r with
 |ok a h'=>exact λφ' v H' p t rh rv=>i v H' (h φ' v H' p t rh rv)
 |exc a h'=>exact h
 |bad=>exact h
theorem post.bind{r:Rs PV}{f:PV->PH->Rs PV}{Q:VK}(h:post C φ H (r.bind f) Q):post C φ H r λv H1=>∃φ1 p h1,φ<+:φ1/\Kp H H1/\RH C φ1 H1 h1/\RV C φ1 H1 p v/\post C φ1 H1 (f p h1) Q:=by
 cases r with
 |ok a h'=>exact λφ' v H' p t rh rv=>⟨φ',a,h',p,t,rh,rv,post.weak p t h⟩
 |exc a h'=>exact h
 |bad=>exact h
theorem post.bindB{r:Rs PV}{f:PV->PH->Rs Bool}{Q:Bool->Hp->Prop}(h:bA C φ H (r.bind f) Q):post C φ H r λv H1=>∃φ1 p h1,φ<+:φ1/\Kp H H1/\RH C φ1 H1 h1/\RV C φ1 H1 p v/\bA C φ1 H1 (f p h1) Q:=by
 cases r with
 |ok a h'=>exact λφ' v H' p t rh rv=>⟨φ',a,h',p,t,rh,rv,bA.weak p t h⟩
 |exc a h'=>exact h
 |bad=>exact h
theorem bA.bind{r:Rs Bool}{f:Bool->PH->Rs PV}{Q:VK}(h:post C φ H (r.bind f) Q):bA C φ H r λb H1=>∃φ1 h1,φ<+:φ1/\Kp H H1/\RH C φ1 H1 h1/\post C φ1 H1 (f b h1) Q:=by
 cases r with
 |ok a h'=>exact λφ' H' p t rh=>⟨φ',h',p,t,rh,post.weak p t h⟩
 |exc a h'=>exact h
 |bad=>exact h
theorem bA.bindB{r:Rs Bool}{f:Bool->PH->Rs Bool}{Q:Bool->Hp->Prop}(h:bA C φ H (r.bind f) Q):bA C φ H r λb H1=>∃φ1 h1,φ<+:φ1/\Kp H H1/\RH C φ1 H1 h1/\bA C φ1 H1 (f b h1) Q:=by
 cases r with
 |ok a h'=>exact λφ' H' p t rh=>⟨φ',h',p,t,rh,bA.weak p t h⟩
 |exc a h'=>exact h
 |bad=>exact h
theorem postA.bind{r:Rs (List PV)}{f:List PV->PH->Rs PV}{Q:VK}(h:post C φ H (r.bind f) Q):postA C φ H r λvs H1=>∃φ1 ps h1,φ<+:φ1/\Kp H H1/\RH C φ1 H1 h1/\RVs C φ1 H1 ps vs/\post C φ1 H1 (f ps h1) Q:=by
 cases r with
 |ok a h'=>exact λφ' v H' p t rh rv=>⟨φ',a,h',p,t,rh,rv,post.weak p t h⟩
 |exc a h'=>exact h
 |bad=>exact h
theorem postA.bindA{r:Rs (List PV)}{f:List PV->PH->Rs (List PV)}{Q:List V->Hp->Prop}(h:postA C φ H (r.bind f) Q):postA C φ H r λvs H1=>∃φ1 ps h1,φ<+:φ1/\Kp H H1/\RH C φ1 H1 h1/\RVs C φ1 H1 ps vs/\postA C φ1 H1 (f ps h1) Q:=by
 cases r with
 |ok a h'=>exact λφ' v H' p t rh rv=>⟨φ',a,h',p,t,rh,rv,postA.weak p t h⟩
 |exc a h'=>exact h
 |bad=>exact h
theorem post.bindA{r:Rs PV}{f:PV->PH->Rs (List PV)}{Q:List V->Hp->Prop}(h:postA C φ H (r.bind f) Q):post C φ H r λv H1=>∃φ1 p h1,φ<+:φ1/\Kp H H1/\RH C φ1 H1 h1/\RV C φ1 H1 p v/\postA C φ1 H1 (f p h1) Q:=by
 cases r with
 |ok a h'=>exact λφ' v H' p t rh rv=>⟨φ',a,h',p,t,rh,rv,postA.weak p t h⟩
 |exc a h'=>exact h
 |bad=>exact h
theorem post.val{Q:VK}(q:post C φ H (.ok p h) Q)(rh:RH C φ H h)(rv:RV C φ H p v):Q v H:=q φ v H Po (Kp.refl H) rh rv
open PySem PySem.Spec PyProof.Rows
structure Cxt(C:MC)(k:Nat)(X:Cx):Prop where
 K:X.K=C.K
 calm:X.calm=true
 room:dM k X.A
 bn:∀x∈C.bs,X.mg x=none
 w:X.w=C.w
theorem Cxt.hu{k:Nat}(c:Cxt C k X):X.A.units+1<cLine:=La c.room
theorem Cxt.hu64{k:Nat}(c:Cxt C k X):X.A.units+64<cLine:=c.room.units
theorem Cxt.comp{k:Nat}(c:Cxt C k X)(sc:Scope)(N:List Str)(a:Addr)(fp:List Addr)(s:Shared)(H:Hp):Cxt C k (X.comp sc N a fp s H):=⟨c.K,c.calm,c.room,c.bn,c.w⟩
section
variable(C:MC)
def rd(m:Me):TE:=λσ H Q=>∃φ δ h,RH C φ H h/\RE C φ H δ σ/\post C φ H (m δ h) Q
def rdB(m:Ev->PH->Rs Bool):TT:=λσ H Q=>∃φ δ h,RH C φ H h/\RE C φ H δ σ/\bA C φ H (m δ h) Q
def rdA(m:Ev->PH->Rs (List PV)):TA:=λσ H Q=>∃φ δ h,RH C φ H h/\RE C φ H δ σ/\postA C φ H (m δ h) Q
def rdS(m:Ms):TS:=λD σ H=>∃φ δ h,RH C φ H h/\RE C φ H δ σ/\bJ C φ H (m δ h) D
def r2(g:PV->PV->PH->Rs PV):R2:=λx y H Q=>∃φ h p q,RH C φ H h/\RV C φ H p x/\RV C φ H q y/\post C φ H (g p q h) Q
def r1(g:PV->PH->Rs PV):V->Hp->VK->Prop:=λx H Q=>∃φ h p,RH C φ H h/\RV C φ H p x/\post C φ H (g p h) Q
def rL(g:List PV->PH->Rs PV):List V->Hp->VK->Prop:=λxs H Q=>∃φ h ps,RH C φ H h/\RVs C φ H ps xs/\post C φ H (g ps h) Q
end
variable{C:MC}{k:Nat}{X:Cx}
def SE(C:MC)(k:Nat)(X:Cx)(e:Expr)(m:Me):Prop:=Cxt C k X->PE X e (rd C m)
def ST(C:MC)(k:Nat)(X:Cx)(e:Expr)(m:Ev->PH->Rs Bool):Prop:=Cxt C k X->PT X e (rdB C m)
def SA(C:MC)(k:Nat)(X:Cx)(es:List Expr)(m:Ev->PH->Rs (List PV)):Prop:=Cxt C k X->PA X es (rdA C m)
def SSt(C:MC)(k:Nat)(X:Cx)(st:Stmt)(m:Ms):Prop:=Cxt C k X->PS X st (rdS C m)
def SSs(C:MC)(k:Nat)(X:Cx)(st:List Stmt)(m:Ms):Prop:=Cxt C k X->PSs X st (rdS C m)
def OpS(C:MC)(k:Nat)(X:Cx)(f:Value->Value->Sem Value)(g:PV->PV->PH->Rs PV):Prop:=Cxt C k X->OpR X f (r2 C g)
def UnS(C:MC)(k:Nat)(X:Cx)(f:Value->Sem Value)(g:PV->PH->Rs PV):Prop:=Cxt C k X->UnR X f (r1 C g)
def kJ(C:MC)(k:Nat)(X:Cx)(f:Value)(g:List PV->PH->Rs PV):Prop:=Cxt C k X->cL X f (rL C g)
def wI:Ev->Nat->Option PV
 |[],_=>none
 |x::_,0=>x
 |_::r,n+1=>wI r n
@[simp]theorem CO(x:Option PV)(r:Ev):wI (x::r) 0=x:=(rfl)
@[simp]theorem KB(x:Option PV)(r:Ev)(n:Nat):wI (x::r) (n+1)=wI r n:=(rfl)
theorem rX:∀{δ:Ev}{i:Nat}{p:PV},wI δ i=some p->δ[i]?=some (some p)
 |[],_,_,h=>by cases h
 |x::_,0,p,h=>by
  have h':x=some p:=h;simp[h']
 |_::r,n+1,p,h=>by
  rw[Q5];exact rX (δ:=r) (i:=n) h
def mV(i:Nat):Me:=λδ h=>match wI δ i with
 |some p=>.ok p h
 |none=>.bad
def mC(p:PV):Me:=λ_ h=>.ok p h
theorem Lp(i:Nat)(hN:X.N[i]?=some x:=by rfl)(hv:Vis X.env.scope x:=by first|exact Or.inl rfl|exact Or.inr (Or.inl rfl)|exact Or.inr (Or.inr rfl))(hd:(x == ("__debug__" : Str))=false:=by decide)(gj:(x == ("__classdict__" : Str))=false:=by decide):SE C k X (.Name x pos) (mV i):=λ_=>by
 refine(Iz hN hv hd gj).imp λσ H Q h=>?_;obtain⟨φ,δ,h,rh,re,p⟩:=h;unfold mV at p;cases e:wI δ i with
 |none=>rw[e]at p;exact p.elim
 |some x=>
  rw[e]at p;obtain⟨v,hv,rv⟩:=re.2 i x (rX e);exact⟨v,hv,p.val rh rv⟩
theorem Lq{i j pos}:SE C k X (.Constant (.int i) j pos) (mC (.int i)):=λ_=>IA.imp λσ H Q ⟨φ,δ,h,rh,re,p⟩=>p.val rh rfl
theorem NN{i j pos}:SE C k X (.Constant (.bool i) j pos) (mC (.bl i)):=λ_=>KI.imp λσ H Q ⟨φ,δ,h,rh,re,p⟩=>p.val rh rfl
theorem Lr{j pos}:SE C k X (.Constant .none j pos) (mC .non):=λ_=>IB.imp λσ H Q ⟨φ,δ,h,rh,re,p⟩=>p.val rh rfl
theorem Ls{i j pos}:SE C k X (.Constant (.str i) j pos) (mC (.str i)):=λ_=>IC.imp λσ H Q ⟨φ,δ,h,rh,re,p⟩=>p.val rh rfl
theorem Ed{n:String}(hv:RB x=some (.type n))(hb:x∈C.bs:=by decide)(hg:Gl X x:=by rfl)(hn:x≠"__name__" := by decide)(hd:(x == ("__debug__" : Str))=false:=by decide):SE C k X (.Name x pos) (mC (.ty n)):=λc=>
 (G0 (v:=.ty n) hg (c.bn x hb) hv rfl hn hd).imp λσ H Q ⟨φ,δ,h,rh,re,p⟩=>p.val rh rfl
def aB(g:PV->PV->PH->Rs PV)(ma mb:Me):Me:=λδ h=>(ma δ h).bind λx h1=>(mb δ h1).bind λy h2=>g x y h2
variable{ma mb:Me}
theorem Bv{g:PV->PV->PH->Rs PV}{Q:VK}(h:rd C (aB g ma mb) σ H Q):tOp (r2 C g) (rd C ma) (rd C mb) σ H Q:=by
 obtain⟨φ,δ,h,rh,re,p⟩:=h;refine⟨φ,δ,h,rh,re,(post.bind p).imp ?_⟩;rintro v H1 ⟨φ1,x,h1,p1,t1,aa,ab,q1⟩;refine⟨φ1,δ,h1,aa,re.mono p1 t1,(post.bind q1).imp ?_⟩;rintro u H2 ⟨φ2,y,h2,p2,t2,ag,bo,q2⟩;exact⟨φ2,h2,x,y,ag,ab.mono p2 t2,bo,q2⟩
variable{op:CmpOp}
section
variable{a b:Expr}{g:PV->PV->PH->Rs PV}
theorem Lu{op:Operator}(ho:OpS C k X (QD op) g)(ha:SE C k X a ma)(hb:SE C k X b mb):SE C k X (.BinOp a op b pos) (aB g ma mb):=λc=>
 (KS (ho c) (ha c) (hb c)).imp λσ H Q h=>Bv h
theorem Lv(ho:OpS C k X (P4 op) g)(ha:SE C k X a ma)(hb:SE C k X b mb)(hm:behindInMarks op b=false:=by first|exact DB _|rfl):SE C k X (.Compare a [op] [b] pos) (aB g ma mb):=λc=>
 (G9 (ho c) (ha c) (hb c) hm).imp λσ H Q h=>Bv h
def mUn(g:PV->PH->Rs PV)(ma:Me):Me:=λδ h=>(ma δ h).bind g
theorem NO{op:UnaryOp}{g:PV->PH->Rs PV}(ho:UnS C k X (unaryOp op) g)(ha:SE C k X a ma):SE C k X (.UnaryOp op a pos) (mUn g ma):=λc=>
 (KU (ho c) (ha c)).imp λσ H Q h=>by
  obtain⟨φ,δ,h,rh,re,p⟩:=h;refine⟨φ,δ,h,rh,re,(post.bind p).imp ?_⟩;rintro v H1 ⟨φ1,x,h1,p1,t1,aa,ab,q1⟩;exact⟨φ1,h1,x,aa,ab,q1⟩
end
def aL(h:PH)(n:Nat):Option (List PV):=match h[n]? with
 |some (.lst xs)=>some xs
 |_=>none
theorem bF(rh:RH C φ H h)(e:aL h n=some xs):∃a vs,φ[n]?=some a/\SqL C.K H a vs/\RVs C φ H xs vs:=by
 unfold aL at e;cases q:h[n]? with
 |none=>rw[q]at e;cases e
 |some o=>
  rw[q]at e;obtain⟨a,ha,ro⟩:=rh.get q;cases o with
  |lst ys=>cases e;obtain⟨vs,q',r⟩:=ro;exact⟨a,vs,ha,SqL.of q',r⟩
  |_=>cases e
def cM(h:PH)(n:Nat):Option (List PV):=match h[n]? with
 |some (.lst xs)=>some xs
 |_=>none
theorem fD(e:cM h n=some xs):h[n]?=some (.lst xs):=by
 unfold cM at e;cases q:h[n]? with
 |none=>rw[q]at e;cases e
 |some o=>
  rw[q]at e;cases o with
  |lst ys=>cases e;rfl
  |_=>cases e
def kK(x:PV)(h:PH):Option (List PV):=match x with
 |.ref n=>aL h n
 |.fl xs=>some xs
 |_=>none
theorem rY{x:PV}(rh:RH C φ H h)(rv:RV C φ H x v)(e:kK x h=some xs):∃a vs,v=.ref a/\SqL C.K H a vs/\RVs C φ H xs vs:=by
 cases x with
 |ref n=>
  obtain⟨a,rfl,ha⟩:=rv;obtain⟨a2,vs,aq,sa,ra⟩:=bF rh e;rw[ha]at aq;cases aq;exact⟨a,vs,rfl,sa,ra⟩
 |fl ys=>
  cases e
  obtain⟨a,vs,rfl,sa,ra⟩:=rv;exact⟨a,vs,rfl,sa.sq,ra⟩
 |_=>cases e
def Ih:List PV->Bool
 |[]=>true
 |_::_=>false
def Ee:PV->PV->PH->Rs PV:=λx y h=>match x,y with
 |.int i,.int j=>.ok (.int (i+j)) h
 |.str i,.str j=>if i.length+j.length<=Pt then .ok (.str (i++j)) h else .bad
 |.tup xs,.tup ys=>if Ih xs=false/\xs.length+ys.length<=Pt then .ok (.tup (xs++ys)) h else .bad
 |.ref a,.ref b=>match cM h a,cM h b with
  |some xs,some ys=>if xs.length+ys.length<=Pt then .ok (.ref h.length) (h++[.lst (xs++ys)]) else .bad
  |_,_=>.bad
 |_,_=>.bad
theorem post.ite{c:Prop}[Decidable c]{r:Rs PV}{Q:VK}(h:post C φ H (if c then r else .bad) Q):c/\post C φ H r Q:=by
 by_cases hc:c
 ·rw[if_pos hc]at h;exact⟨hc,h⟩
 ·rw[if_neg hc]at h;exact h.elim
theorem post.lnew{Q:VK}(q:post C φ H (.ok (.ref h.length) (h++[.lst xs])) Q)(rh:RH C φ H h)(r:RVs C φ H xs vs){p:Addr}(hp:H p=none):Q (.ref p) (upd H p (.lst vs)):=
 q (φ++[p]) (.ref p) _ (Qc _ _) (Kp.new hp) (rh.new hp ⟨vs,aI,r.mono (Qc _ _) (Kp.new hp)⟩) ⟨p,rfl,by rw[<-rh.len];simp⟩
theorem post.tnew{Q:VK}(q:post C φ H (.ok (.tup xs) h) Q)(rh:RH C φ H h)(r:RVs C φ H xs vs){p:Addr}(hp:H p=none):Q (.ref p) (upd H p (.tup vs)):=
 q φ (.ref p) _ Po (Kp.new hp) (rh.aside hp) ⟨p,vs,rfl,SqT.of aI,r.mono Po (Kp.new hp)⟩
theorem post.lset{ws:List V}{Q:VK}(q:post C φ H (.ok p (h.set n (.lst xs))) Q)(rh:RH C φ H h)(e:φ[n]?=some a)(hl:H a=some (.lst ws))(r:RVs C φ H xs vs)(rv:RV C φ H p v):Q v (upd H a (.lst vs)):=
 q φ v _ Po (Kp.lst hl) (rh.write e (by rw[hl];trivial) ⟨vs,aI,r.mono Po (Kp.lst hl)⟩) (rv.mono Po (Kp.lst hl))
theorem Ef(r:RVs C φ H xs vs)(h:Ih xs=false):vs≠[]:=by
 cases xs with
 |nil=>cases h
 |cons x xs=>
  cases vs with
  |nil=>exact r.elim
  |cons=>intro z;cases z
theorem Lw:OpS C k X (QD .Add) Ee:=λc=>(Gs C.K c.K).imp λx y H Q h=>by
 obtain⟨φ,h,p,q,rh,rx,ry,po⟩:=h;unfold Ee at po;cases p with
 |int i=>
  cases q with
  |int j=>cases rx;cases ry;exact po.val rh rfl
  |_=>exact po.elim
 |str i=>
  cases q with
  |str j=>cases rx;cases ry;exact⟨po.ite.1,po.ite.2.val rh rfl⟩
  |_=>exact po.elim
 |tup xs=>
  cases q with
  |tup ys=>
   obtain⟨a,vs,rfl,sa,ra⟩:=rx;obtain⟨b,us,rfl,sb,rb⟩:=ry;obtain⟨⟨h1,h2⟩,po⟩:=po.ite;refine .inr ⟨a,b,vs,us,rfl,rfl,sa,sb,Ef ra h1,by rw[<-ra.length,<-rb.length];exact h2,λz=>?_,λz p hp=>po.tnew rh (ra.append rb) hp⟩;subst z;have e:ys=[]:=List.eq_nil_of_length_eq_zero rb.length;subst e;exact po.val rh ⟨a,vs,rfl,sa,by rw[RQ];exact ra⟩
  |_=>exact po.elim
 |ref n=>
  cases q with
  |ref m=>
   obtain⟨a,rfl,ha⟩:=rx;obtain⟨b,rfl,hb⟩:=ry;dsimp only at po;cases e1:cM h n with
   |none=>rw[e1]at po;exact po.elim
   |some xs=>
    cases e2:cM h m with
    |none=>rw[e1,e2]at po;exact po.elim
    |some ys=>
     rw[e1,e2]at po;obtain⟨vs,h1,r1⟩:=rh.at' n a _ ha (fD e1);obtain⟨us,h2,r2⟩:=rh.at' m b _ hb (fD e2);obtain⟨hz,po⟩:=po.ite;exact .inl ⟨a,b,vs,us,rfl,rfl,h1,h2,by rw[<-r1.length,<-r2.length];exact hz,λp hp=>po.lnew rh (r1.append r2) hp⟩
  |_=>exact po.elim
 |_=>exact po.elim
def vInt(P:Int->Int->Prop)[∀i j,Decidable (P i j)](f:Int->Int->Int):PV->PV->PH->Rs PV:=λx y h=>match x,y with
 |.int i,.int j=>if P i j then .ok (.int (f i j)) h else .bad
 |_,_=>.bad
theorem Bw{P:Int->Int->Prop}[∀i j,Decidable (P i j)](ho:OpR X f (uR P g)):OpS C k X f (vInt P g):=λc=>ho.imp λx y H Q h=>by
 obtain⟨φ,h,p,q,rh,rx,ry,po⟩:=h;unfold vInt at po;cases p with
 |int i=>
  cases q with
  |int j=>cases rx;cases ry;exact⟨po.ite.1,po.ite.2.val rh rfl⟩
  |_=>exact po.elim
 |_=>exact po.elim
noncomputable instance(i j:Int):Decidable (yJ i j):=Q6 _
noncomputable instance(i j:Int):Decidable (DA i j):=Q6 _
noncomputable instance(i j:Int):Decidable (Cg i j):=Q6 _
def tZ:PV->PV->PH->Rs PV:=λx y h=>match x,y with
 |.int i,.int j=>.ok (.int (i-j)) h
 |_,_=>.bad
theorem Lx:OpS C k X (QD .Sub) tZ:=λc=>Gu.imp λx y H Q h=>by
 obtain⟨φ,h,p,q,rh,rx,ry,po⟩:=h;unfold tZ at po;cases p with
 |int i=>
  cases q with
  |int j=>cases rx;cases ry;exact po.val rh rfl
  |_=>exact po.elim
 |_=>exact po.elim
noncomputable abbrev wJ:=vInt yJ λi j=>i*j
noncomputable abbrev CP:=vInt DA λi j=>i/j
abbrev iW:=vInt (λ_ j=>0<j) λi j=>i%j
noncomputable abbrev Eg:=vInt Cg λi j=>i ^ j.toNat
theorem Ly:OpS C k X (QD .Mult) wJ:=Bw Gv
theorem Lz:OpS C k X (QD .FloorDiv) CP:=Bw Gw
theorem LA:OpS C k X (QD .Mod) iW:=Bw Gx
theorem LB:OpS C k X (QD .Pow) Eg:=Bw Gy
def CQ:PV->PH->Rs PV:=λx h=>match x with
 |.int i=>.ok (.int (-i)) h
 |_=>.bad
open PySem PySem.Spec PyProof.Rows
variable{C:MC}{k:Nat}{X:Cx}
def CS(f:Int->Int->Bool)(g:List Nat->List Nat->Bool):PV->PV->PH->Rs PV:=λx y h=>match x,y with
 |.int i,.int j=>.ok (.bl (f i j)) h
 |.str i,.str j=>.ok (.bl (g i.cps.toList j.cps.toList)) h
 |_,_=>.bad
theorem Eh{p:Int->Int->Bool}{g:List Nat->List Nat->Bool}(ho:OpR X f (yS p g)):OpS C k X f (CS p g):=λc=>ho.imp λx y H Q h=>by
 obtain⟨φ,h,p,q,rh,rx,ry,po⟩:=h;unfold CS at po;cases p with
 |int i=>
  cases q with
  |int j=>cases rx;cases ry;exact po.val rh rfl
  |_=>exact po.elim
 |str i=>
  cases q with
  |str j=>cases rx;cases ry;exact po.val rh rfl
  |_=>exact po.elim
 |_=>exact po.elim
abbrev vLt:=CS (λi j=>decide (i<j)) λi j=>decide (i<j)
abbrev vGt:=CS (λi j=>decide (j<i)) λi j=>decide (j<i)
abbrev vLe:=CS (λi j=>decide (i<=j)) λi j=>!decide (j<i)
theorem NP:OpS C k X (P4 .Lt) vLt:=Eh Jf
theorem NQ:OpS C k X (P4 .Gt) vGt:=Eh Jg
theorem NR:OpS C k X (P4 .LtE) vLe:=Eh Jh
mutual
def PV.d:PV->Option D
 |.non=>some .non
 |.bl b=>some (.bl b)
 |.int i=>some (.int i)
 |.str x=>some (.str x)
 |.tup xs=>match PV.ds xs with
  |some ds=>some (.tup ds)
  |none=>none
 |.ref _=>none
 |.ty _=>none
 |.fl _=>none
def PV.ds:List PV->Option (List D)
 |[]=>some []
 |x::xs=>match PV.d x,PV.ds xs with
  |some d,some ds=>some (d::ds)
  |_,_=>none
end
mutual
theorem RV.rep:∀{x:PV}{d:D}{v:V},RV C φ H x v->x.d=some d->Rep C.K H d v
 |.non,_,_,h,e=>by cases e;exact h
 |.bl _,_,_,h,e=>by cases e;exact h
 |.int _,_,_,h,e=>by cases e;exact h
 |.str _,_,_,h,e=>by cases e;exact h
 |.tup xs,d,v,⟨a,vs,e1,q,r⟩,e=>by
  unfold PV.d at e;cases e2:PV.ds xs with
  |none=>rw[e2]at e;cases e
  |some ds=>
   rw[e2]at e;cases e
   exact⟨a,vs,e1,q,RVs.reps r e2⟩
 |.ref _,_,_,_,e=>by cases e
 |.ty _,_,_,_,e=>by cases e
 |.fl _,_,_,_,e=>by cases e
theorem RVs.reps:∀{xs:List PV}{ds:List D}{vs:List V},RVs C φ H xs vs->PV.ds xs=some ds->eQ C.K H ds vs
 |[],_,[],_,e=>by cases e;trivial
 |x::xs,_,v::vs,⟨h,r⟩,e=>by
  unfold PV.ds at e;cases e1:PV.d x with
  |none=>rw[e1]at e;cases e
  |some d=>
   cases e2:PV.ds xs with
   |none=>rw[e1,e2]at e;cases e
   |some ds=>
    rw[e1,e2]at e;cases e
    exact⟨RV.rep h e1,RVs.reps r e2⟩
 |[],_,_::_,h,_=>h.elim
 |_::_,_,[],h,_=>h.elim
end
def wK(x y:PV)(h:PH):Option Bool:=match x.d,y.d with
 |some d,some e=>if d.depth<=40 then some (eqD d e) else none
 | _,_=>match kK x h,kK y h with
   |some xs,some ys=>match PV.ds xs,PV.ds ys with
    |some ds,some es=>if D.depths ds<=40 then some (eY ds es) else none
    |_,_=>none
   |_,_=>none
def ofB(o:Option Bool)(h:PH):Rs PV:=match o with
 |some b=>.ok (.bl b) h
 |none=>.bad
def vEq:PV->PV->PH->Rs PV:=λx y h=>ofB (wK x y h) h
def vNe:PV->PV->PH->Rs PV:=λx y h=>ofB ((wK x y h).map not) h
set_option tactic.hygienic true in
theorem rZ{q:PV}{x:V}(rh:RH C φ H h)(rx:RV C φ H p x)(ry:RV C φ H q y)(e:wK p q h=some b):
  (∃d e,Rep C.K H d x/\Rep C.K H e y/\d.depth<=40/\b=eqD d e)\/(∃ds es,CD C.K H ds x/\CD C.K H es y/\D.depths ds<=40/\b=eY ds es):=by
 unfold wK at e;split at e
 ·rename_i d e' h1 h2;split at e
  ·rename_i hd;cases e
   exact .inl ⟨d,e',rx.rep h1,ry.rep h2,hd,rfl⟩
  ·cases e
 ·split at e
  ·rename_i xs ys h1 h2;split at e
   ·rename_i ds es h3 h4;split at e
    ·rename_i hd;cases e
     obtain⟨a',vs,rfl,sa,ra⟩:=rY rh rx h1;obtain⟨OT,us,rfl,sb,rb⟩:=rY rh ry h2;exact .inr ⟨ds,es,⟨a',vs,rfl,sa,ra.reps h3⟩,⟨OT,us,rfl,sb,rb.reps h4⟩,hd,rfl⟩
    ·cases e
   ·cases e
  ·cases e
theorem post.ofB{o:Option Bool}{Q:VK}(q:post C φ H (ofB o h) Q):∃b,o=some b/\post C φ H (.ok (.bl b) h) Q:=by
 cases o with
 |none=>exact q.elim
 |some b=>exact⟨b,rfl,q⟩
theorem NS:OpS C k X (P4 .Eq) vEq:=λc=>((Jl c.hu64 C.K c.K).or (Jn c.hu64 C.K c.K)).imp λx y H Q h=>by
 obtain⟨φ,h,p,q,rh,rx,ry,po⟩:=h;obtain⟨b,e,po⟩:=po.ofB;rcases rZ rh rx ry e with⟨d,e',h1,h2,h3,rfl⟩|⟨d,e',h1,h2,h3,rfl⟩
 ·exact .inl ⟨d,e',h1,h2,h3,po.val rh rfl⟩
 ·exact .inr ⟨d,e',h1,h2,h3,po.val rh rfl⟩
theorem NT:OpS C k X (P4 .NotEq) vNe:=λc=>((Jm c.hu64 C.K c.K).or (Jo c.hu64 C.K c.K)).imp λx y H Q h=>by
 obtain⟨φ,h,p,q,rh,rx,ry,po⟩:=h;obtain⟨b,e,po⟩:=po.ofB;cases e0:wK p q h with
 |none=>rw[e0]at e;cases e
 |some b'=>
  rw[e0]at e;cases e
  rcases rZ rh rx ry e0 with⟨d,e',h1,h2,h3,rfl⟩|⟨d,e',h1,h2,h3,rfl⟩
  ·exact .inl ⟨d,e',h1,h2,h3,po.val rh rfl⟩
  ·exact .inr ⟨d,e',h1,h2,h3,po.val rh rfl⟩
def oI:PV->Option Key
 |.int i=>some (.inl i)
 |.str x=>some (.inr x)
 |_=>none
def aH{κ:Type}[DecidableEq κ]:List (κ×PV)->κ->Option PV
 |[],_=>none
 |(a,p)::r,b=>if a=b then some p else aH r b
def wL(h:PH)(n:Nat)(x:PV):Option (Option PV):=match h[n]? with
 |some (.dK kvs)=>match oI x with
  |some key=>some (aH kvs key)
  |none=>none
 |_=>none
def sA(x:PV)(ys:List PV):Option Bool:=match x.d,PV.ds ys with
 |some d,some ds=>if D.depths ds<=40 then some (ds.any λe=>eqD e d) else none
 |_,_=>none
def zC(x y:PV)(h:PH):Option Bool:=match y with
 |.tup ys=>sA x ys
 |.ref n=>match aL h n with
  |some ys=>sA x ys
  |none=>(wL h n x).map Option.isSome
 |.fl ys=>sA x ys
 |_=>none
def vIn:PV->PV->PH->Rs PV:=λx y h=>ofB (zC x y h) h
def oJ:PV->PV->PH->Rs PV:=λx y h=>ofB ((zC x y h).map not) h
theorem AL{x:PV}{key:Key}(r:RV C φ H x v)(e:oI x=some key):v=kV key:=by
 cases x <;> first|(cases e;exact r)|cases e
theorem oK{κ:Type}[DecidableEq κ]{kvs:List (κ×PV)}{ks:List (κ×V)}(r:RKv C φ H kvs ks)(a:κ):match aH kvs a,gI ks a with
  |some p,some v=>RV C φ H p v
  |none,none=>True
  |_,_=>False:=by
 unfold RKv at r
 induction r with
 |nil=>trivial
 | @cons p q ps qs h t ih=>
  obtain⟨h1,h2⟩:=h;obtain⟨pk,pv⟩:=p
  by_cases e:pk=a
  ·have e':q.1=a:=h1.symm.trans e;rw[mL e'];unfold aH;rw[if_pos e];exact h2
  ·have e':¬ q.1=a:=λz=>e (h1.trans z);rw[mM e'];unfold aH;rw[if_neg e];exact ih
set_option tactic.hygienic true in
theorem kY{x:PV}{o:Option PV}(rh:RH C φ H h)(ha:φ[n]?=some a)(rv:RV C φ H x v)(e:wL h n x=some o):
  ∃o',kX H a v o'/\o.isSome=o'.isSome/\∀p,o=some p->∃w,o'=some w/\RV C φ H p w:=by
 unfold wL at e;split at e
 ·rename_i kvs hk;split at e
  ·rename_i key aj;cases e
   obtain⟨ks,hH,rk⟩:=rh.at' n a _ ha hk;have q:=oK rk key;rw[AL rv aj];refine⟨gI ks key,kX.k hH,?_,λp hp=>?_⟩
   ·cases e1:aH kvs key <;> cases e2:gI ks key <;> rw[e1,e2]at q <;> first|rfl|exact q.elim
   ·rw[hp]at q;cases e2:gI ks key with
    |none=>rw[e2]at q;exact q.elim
    |some w=>rw[e2]at q;exact⟨w,rfl,q⟩
  ·cases e
 ·cases e
set_option tactic.hygienic true in
theorem sC{q:PV}{x:V}(rh:RH C φ H h)(rx:RV C φ H p x)(ry:RV C φ H q y)(e:zC p q h=some b):
  (∃d a ds vs,y=.ref a/\(SqL C.K H a vs\/SqT C.K H a vs)/\Rep C.K H d x/\eQ C.K H ds vs/\D.depths ds<=40/\b=ds.any λe=>eqD e d)\/∃a o,y=.ref a/\kX H a x o/\b=o.isSome:=by
 have go:∀{a:Addr}{vs:List V}{ys:List PV},(SqL C.K H a vs\/SqT C.K H a vs)->RVs C φ H ys vs->sA p ys=some b->∃d a' ds vs,V.ref a=.ref a'/\(SqL C.K H a' vs\/SqT C.K H a' vs)/\Rep C.K H d x/\eQ C.K H ds vs/\D.depths ds<=40/\b=ds.any λe=>eqD e d:=by
  intro a vs ys hs hr he;unfold sA at he;split at he
  ·rename_i d ds h1 h2;split at he
   ·rename_i hd;cases he
    exact⟨d,a,ds,vs,rfl,hs,rx.rep h1,hr.reps h2,hd,rfl⟩
   ·cases he
  ·cases he
 unfold zC at e;split at e
 ·obtain⟨a,vs,rfl,sa,ra⟩:=ry;exact .inl (go (.inr sa) ra e)
 ·rename_i n;obtain⟨a,rfl,ha⟩:=ry;split at e
  ·rename_i ys hl;obtain⟨a2,vs,aq,sa,ra⟩:=bF rh hl;rw[ha]at aq;cases aq;exact .inl (go (.inl sa) ra e)
  ·cases e':wL h n p with
   |none=>rw[e']at e;cases e
   |some o=>
    rw[e']at e;cases e
    obtain⟨o',g,i,_⟩:=kY rh ha rx e';exact .inr ⟨a,o',rfl,g,i⟩
 ·obtain⟨a,vs,rfl,sa,ra⟩:=ry;exact .inl (go (.inl sa.sq) ra e)
 ·cases e
theorem NU:OpS C k X (P4 .In) vIn:=λc=>((Jp c.hu64 C.K c.K).or (Ji c.hu C.K c.K)).imp λx y H Q h=>by
 obtain⟨φ,h,p,q,rh,rx,ry,po⟩:=h;obtain⟨b,e,po⟩:=po.ofB;rcases sC rh rx ry e with⟨d,a,ds,vs,rfl,h1,h2,h3,h4,rfl⟩|⟨a,o,rfl,g,rfl⟩
 ·exact .inl ⟨d,a,ds,vs,rfl,h1,h2,h3,h4,po.val rh rfl⟩
 ·exact .inr (.inr ⟨a,o,rfl,g,po.val rh rfl⟩)
theorem GG:OpS C k X (P4 .NotIn) oJ:=λc=>((CF c.hu64 C.K c.K).or (CA c.hu C.K c.K)).imp λx y H Q h=>by
 obtain⟨φ,h,p,q,rh,rx,ry,po⟩:=h;obtain⟨b,e,po⟩:=po.ofB;cases e':zC p q h with
 |none=>rw[e']at e;cases e
 |some b'=>
  rw[e']at e;cases e
  rcases sC rh rx ry e' with⟨d,a,ds,vs,rfl,h1,h2,h3,h4,rfl⟩|⟨a,o,rfl,g,rfl⟩
  ·exact .inl ⟨d,a,ds,vs,rfl,h1,h2,h3,h4,po.val rh rfl⟩
  ·exact .inr (.inr ⟨a,o,rfl,g,po.val rh rfl⟩)
def oM:PV->Bool
 |.non=>true
 |_=>false
def vIs:PV->PV->PH->Rs PV:=λx y h=>match y with
 |.non=>.ok (.bl (oM x)) h
 |.bl b=>match x with
  |.bl a=>.ok (.bl (a == b)) h
  |_=>.bad
 |_=>.bad
def kZ:PV->PV->PH->Rs PV:=λx y h=>match y with
 |.non=>.ok (.bl (!oM x)) h
 |.bl b=>match x with
  |.bl a=>.ok (.bl (!(a == b))) h
  |_=>.bad
 |_=>.bad
theorem RV.isNon(r:RV C φ H p v):decide (v=.non)=oM p:=by
 cases p with
 |non=>cases r;rfl
 |tup xs=>obtain⟨a,vs,rfl,_⟩:=r;rfl
 |ref n=>obtain⟨a,rfl,_⟩:=r;rfl
 |fl xs=>obtain⟨a,vs,rfl,_⟩:=r;rfl
 |_=>cases r;rfl
theorem GH:OpS C k X (P4 .IsNot) kZ:=λc=>(G8.or (λpins s σ H x y v u Q I rx ry(h:∃a b,x=.bl a/\y=.bl b/\Q (.bl (!(a == b))) H)=>by
  obtain⟨a,b,rfl,rfl,q⟩:=h;cases rx;cases ry;exact PyProof.Rows.isnot_bool ⟨.bl _,H,I,rfl,q⟩)).imp λx y H Q h=>by
 obtain⟨φ,h,p,q,rh,rx,ry,po⟩:=h;unfold kZ at po;cases q with
 |non=>
  cases ry
  refine .inl ⟨rfl,?_⟩;rw[rx.isNon];exact po.val rh rfl
 |bl b=>
  cases p with
  |bl a=>cases rx;cases ry;exact .inr ⟨a,b,rfl,rfl,po.val rh rfl⟩
  |_=>exact po.elim
 |_=>exact po.elim
def tru(x:PV)(h:PH):Rs Bool:=match x with
 |.non=>.ok false h
 |.bl b=>.ok b h
 |.int i=>.ok (i != 0) h
 |.str y=>if y.length<=Pt then .ok ((y.length:Int) != 0) h else .bad
 |.tup xs=>.ok (!xs.isEmpty) h
 |.ref n=>match aL h n with
  |some xs=>.ok (!xs.isEmpty) h
  |none=>match h[n]? with
   |some (.dK kvs)=>.ok (!kvs.isEmpty) h
   |_=>.bad
 |.fl xs=>.ok (!xs.isEmpty) h
 |.ty _=>.bad
theorem RVs.isEmpty(r:RVs C φ H xs vs):(!vs.isEmpty)=!xs.isEmpty:=by
 cases xs <;> cases vs <;> first|rfl|exact r.elim
theorem bA.ite{c:Prop}[Decidable c]{r:Rs Bool}{Q:Bool->Hp->Prop}(h:bA C φ H (if c then r else .bad) Q):c/\bA C φ H r Q:=by
 by_cases hc:c
 ·rw[if_pos hc]at h;exact⟨hc,h⟩
 ·rw[if_neg hc]at h;exact h.elim
theorem bA.val{Q:Bool->Hp->Prop}(q:bA C φ H (.ok b h) Q)(rh:RH C φ H h):Q b H:=q φ H Po (Kp.refl H) rh
set_option tactic.hygienic true in
theorem CT{Q:Bool->Hp->Prop}(rh:RH C φ H h)(rv:RV C φ H p v)(po:bA C φ H (tru p h) Q):∃b,Ai C.K v H b/\Q b H:=by
 unfold tru at po;cases p with
 |non=>cases rv;exact⟨_,rfl,po.val rh⟩
 |bl b=>cases rv;exact⟨_,rfl,po.val rh⟩
 |int i=>cases rv;exact⟨_,rfl,po.val rh⟩
 |str y=>cases rv;exact⟨_,⟨po.ite.1,rfl⟩,po.ite.2.val rh⟩
 |tup xs=>
  obtain⟨a,vs,rfl,sa,ra⟩:=rv;exact⟨_,.inr (.inl ⟨vs,sa,rfl⟩),by rw[ra.isEmpty];exact po.val rh⟩
 |ref n=>
  obtain⟨a,rfl,ha⟩:=rv;dsimp only at po;cases e:aL h n with
  |some xs=>
   rw[e]at po;obtain⟨a2,vs,aq,sa,ra⟩:=bF rh e;rw[ha]at aq;cases aq;exact⟨_,.inl ⟨vs,sa,rfl⟩,by rw[ra.isEmpty];exact po.val rh⟩
  |none=>
   rw[e]at po;dsimp only at po;split at po
   ·rename_i kvs hk;obtain⟨ks,hH,rk⟩:=rh.at' n a _ ha hk;refine⟨_,.inr (.inr ⟨ks,hH,rfl⟩),?_⟩;have:(!ks.isEmpty)=!kvs.isEmpty:=by cases rk <;> rfl
    rw[this];exact po.val rh
   ·exact po.elim
 |fl xs=>
  obtain⟨a,vs,rfl,sa,ra⟩:=rv;exact⟨_,.inl ⟨vs,sa.sq,rfl⟩,by rw[ra.isEmpty];exact po.val rh⟩
 |ty n=>exact po.elim
open PySem PySem.Spec PyProof.Rows
variable{C:MC}{k:Nat}{X:Cx}
def aQ(m:Me):Ev->PH->Rs Bool:=λδ h=>(m δ h).bind tru
variable{m:Me}
theorem AM{Q:Bool->Hp->Prop}(h:rdB C (aQ m) σ H Q):rd C m σ H λv H1=>∃b,Ai C.K v H1 b/\Q b H1:=by
 obtain⟨φ,δ,h,rh,re,p⟩:=h;refine⟨φ,δ,h,rh,re,(post.bindB p).imp ?_⟩;rintro v H1 ⟨φ1,x,h1,p1,t1,aa,ab,q1⟩;exact CT aa ab q1
variable{mc:Me}{c':Expr}{jx:CmpOp}
section
variable{a b:Expr}{g g':PV->PV->PH->Rs PV}{ta tb:Ev->PH->Rs Bool}
theorem LC(h:SE C k X e m)(he:∀whole,isTrue e X.env whole=(do let v <-whole;standAt e.pos;holding [v] (truthy v)):=by intro _;rfl):ST C k X e (aQ m):=λc=>
 (DF (h c) he).imp λσ H Q q=>by rw[c.K];exact AM q
theorem LD(ho:OpS C k X (P4 op) g)(ha:SE C k X a ma)(hb:SE C k X b mb)(hm:behindInMarks op b=false:=by first|exact DB _|rfl):ST C k X (.Compare a [op] [b] pos) (aQ (aB g ma mb)):=λc=>by
 intro pins s σ H Q I h;have h:=Bv (AM h);refine wpAny_isTrue_Compare1 (thn (ha c pins s σ H _ I h) λv s1 ⟨x,H1,I1,r1,q1⟩=>thn (hb c pins s1 σ H1 _ I1 q1) λu s2 ⟨y,H2,I2,r2,q2⟩=>
  thn (ho c pins s2 σ H2 x y v u _ I2 r1 r2 q2) λw s3 ⟨z,H3,I3,r3,q3⟩=>?_) hm
 rw[<-c.K]at q3;exact DE pins s3 σ H3 z w Q I3 r3 q3
def Ei(z:PV)(h:PH):Rs PV:=match z with
 |.bl b=>.ok (.bl b) h
 |_=>.bad
def AN(g g':PV->PV->PH->Rs PV)(ma mb mc:Me):Me:=λδ h=>(ma δ h).bind λx h1=>(mb δ h1).bind λy h2=>(g x y h2).bind λz h3=>match z with
 |.bl true=>(mc δ h3).bind λw h4=>(g' y w h4).bind Ei
 |.bl false=>.ok (.bl false) h3
 |_=>.bad
theorem Ju{Q:VK}(h:rd C (AN g g' ma mb mc) σ H Q):DC (r2 C g) (r2 C g') (rd C ma) (rd C mb) (rd C mc) σ H λv H1=>∃b,v=.bl b/\Q v H1:=by
 obtain⟨φ,δ,h,rh,re,p⟩:=h;refine⟨φ,δ,h,rh,re,(post.bind p).imp ?_⟩;rintro v H1 ⟨φ1,x,h1,p1,t1,aa,ab,q1⟩;refine⟨φ1,δ,h1,aa,re.mono p1 t1,(post.bind q1).imp ?_⟩;rintro u H2 ⟨φ2,y,h2,p2,t2,ag,bo,q2⟩;refine⟨φ2,h2,x,y,ag,ab.mono p2 t2,bo,(post.bind q2).imp ?_⟩;rintro w H3 ⟨φ3,z,h3,p3,t3,b8,rv3,q3⟩;cases z with
 |bl b=>
  cases rv3
  refine⟨b,rfl,?_⟩;cases b with
  |false=>exact yO ⟨false,rfl,q3.val b8 rfl⟩
  |true=>
   refine yP ⟨φ3,δ,h3,b8,re.mono ((p1.trans p2).trans p3) ((t1.trans t2).trans t3),(post.bind q3).imp ?_⟩;rintro w4 H4 ⟨φ4,z4,h4,p4,t4,rh4,rv4,q4⟩;refine⟨φ4,h4,y,z4,rh4,bo.mono (p3.trans p4) (t3.trans t4),rv4,(post.bind q4).imp ?_⟩;rintro w5 H5 ⟨φ5,z5,h5,p5,t5,rh5,rv5,q5⟩;cases z5 with
   |bl b=>cases rv5;exact⟨b,rfl,q5.val rh5 rfl⟩
   |_=>exact q5.elim
 |_=>exact q3.elim
theorem LF(ho:OpS C k X (P4 op) g)(cp:OpS C k X (P4 jx) g')(ha:SE C k X a ma)(hb:SE C k X b mb)(hc:SE C k X c' mc)(hm:lastMarks [op,jx] [b,c']=false:=by with_unfolding_all rfl):
  ST C k X (.Compare a [op,jx] [b,c'] pos) (aQ (AN g g' ma mb mc)):=λc=>by
 intro pins s σ H Q I h;have h':=Ju (AM h);refine Rz (DD (ho c) (cp c) (ha c) (hb c) (hc c) hm pins s σ H (λb H1=>∃b',Ai C.K (.bl b) H1 b'/\Q b' H1) I ?_) (λb s1 ⟨H1,I1,b',(e:b'=b),q⟩=>⟨H1,I1,by rw[<-e];exact q⟩) λ_ _ z=>z;obtain⟨φ,δ,hh,rh,re,p⟩:=h';refine⟨φ,δ,hh,rh,re,p.imp ?_⟩;rintro v H1 ⟨φ1,δ1,h1,aa,qw,p1⟩;refine⟨φ1,δ1,h1,aa,qw,p1.imp ?_⟩;rintro u H2 ⟨φ2,h2,x,y,ag,rx,ry,p2⟩;refine⟨φ2,h2,x,y,ag,rx,ry,p2.imp ?_⟩;rintro w H3 ⟨b,e,p3⟩;refine⟨b,e,?_⟩;cases b with
 |false=>
  have:∃b,V.bl false=V.bl b/\∃b_1,Ai C.K (V.bl false) H3 b_1/\Q b_1 H3:=by simpa using p3
  obtain⟨b,e1,q⟩:=this;exact yO ⟨false,rfl,q⟩
 |true=>
  have p3:rd C mc σ H3 λw' H4=>r2 C g' u w' H4 λv H1=>∃b,v=V.bl b/\∃b_1,Ai C.K v H1 b_1/\Q b_1 H1:=by simpa using p3
  obtain⟨φ3,δ3,h3,b8,oo,p3⟩:=p3;refine yP ⟨φ3,δ3,h3,b8,oo,p3.imp ?_⟩;rintro w4 H4 ⟨φ4,h4,x4,y4,rh4,rx4,ry4,p4⟩;refine⟨φ4,h4,x4,y4,rh4,rx4,ry4,p4.imp ?_⟩;rintro w5 H5 ⟨b,rfl,q⟩;exact⟨b,rfl,q⟩
def Bx(t:Ev->PH->Rs Bool):Ev->PH->Rs Bool:=λδ h=>(t δ h).bind λb h1=>.ok (!b) h1
def jF(ta tb:Ev->PH->Rs Bool):Ev->PH->Rs Bool:=λδ h=>(ta δ h).bind λb h1=>match b with
 |true=>tb δ h1
 |false=>.ok false h1
def Ej(ta tb:Ev->PH->Rs Bool):Ev->PH->Rs Bool:=λδ h=>(ta δ h).bind λb h1=>match b with
 |true=>.ok true h1
 |false=>tb δ h1
theorem bA.imp{r:Rs Bool}{Q Q':Bool->Hp->Prop}(h:bA C φ H r Q)(i:∀v H',Q v H'->Q' v H'):bA C φ H r Q':=by
 cases r with
 |ok a h'=>exact λφ' H' p t rh=>i a H' (h φ' H' p t rh)
 |exc a h'=>exact h
 |bad=>exact h
theorem LG(h:ST C k X e ta):ST C k X (.UnaryOp .Not e pos) (Bx ta):=λc=>(IF (h c)).imp λσ H Q q=>by
 obtain⟨φ,δ,h,rh,re,p⟩:=q;refine⟨φ,δ,h,rh,re,(bA.bindB p).imp ?_⟩;rintro b H1 ⟨φ1,h1,p1,t1,aa,q1⟩;exact q1.val aa
def SW(C:MC)(k:Nat)(X:Cx)(e:Expr)(m:Ev->PH->Rs Bool):Prop:=Cxt C k X->PW X e (rdB C m)
theorem SW.t(h:SW C k X e ta):ST C k X e ta:=λc=>(h c).pt
theorem PW.imp{t t':TT}(h:PW X e t)(i:∀σ H Q,t' σ H Q->t σ H Q):PW X e t':=λw pins s σ H Q I q=>h w pins s σ H Q I (i σ H Q q)
theorem Jv(ha:ST C k X a ta):SW C k X (.BoolOp .And [a] pos) ta:=λc=>G1 (ha c)
theorem LH(ha:ST C k X a ta):SW C k X (.BoolOp .Or [a] pos) ta:=λc=>ID (ha c)
theorem w_and{rest:List Expr}(ha:ST C k X a ta)(hb:SW C k X (.BoolOp .And (b::rest) pos) tb):SW C k X (.BoolOp .And (a::b::rest) pos) (jF ta tb):=λc=>PW.imp (IE (ha c) (hb c)) λσ H Q q=>by
 obtain⟨φ,δ,h,rh,re,p⟩:=q;refine⟨φ,δ,h,rh,re,(bA.bindB p).imp ?_⟩;rintro b H1 ⟨φ1,h1,p1,t1,aa,q1⟩;cases b with
 |true=>exact yP ⟨φ1,δ,h1,aa,re.mono p1 t1,q1⟩
 |false=>exact yO (q1.val aa)
theorem w_or{rest:List Expr}(ha:ST C k X a ta)(hb:SW C k X (.BoolOp .Or (b::rest) pos) tb):SW C k X (.BoolOp .Or (a::b::rest) pos) (Ej ta tb):=λc=>PW.imp (KJ (ha c) (hb c)) λσ H Q q=>by
 obtain⟨φ,δ,h,rh,re,p⟩:=q;refine⟨φ,δ,h,rh,re,(bA.bindB p).imp ?_⟩;rintro b H1 ⟨φ1,h1,p1,t1,aa,q1⟩;cases b with
 |true=>exact yP (q1.val aa)
 |false=>exact yO ⟨φ1,δ,h1,aa,re.mono p1 t1,q1⟩
def qB(ma mb:Me):Me:=λδ h=>(ma δ h).bind λx h1=>match x with
 |.bl true=>mb δ h1
 |.bl false=>.ok (.bl false) h1
 |_=>.bad
theorem LI{op}(h:SE C k X a ma):SE C k X (.BoolOp op [a] pos) ma:=λc=>IG (h c)
theorem LJ{rest:List Expr}(ha:SE C k X a ma)(hb:SE C k X (.BoolOp .And (b::rest) pos) mb):SE C k X (.BoolOp .And (a::b::rest) pos) (qB ma mb):=λc=>(Gz (ha c) (hb c)).imp λσ H Q q=>by
 obtain⟨φ,δ,h,rh,re,p⟩:=q;refine⟨φ,δ,h,rh,re,(post.bind p).imp ?_⟩;rintro v H1 ⟨φ1,x,h1,p1,t1,aa,rv,q1⟩;cases x with
 |bl b=>
  cases rv
  cases b with
  |true=>exact yP ⟨φ1,δ,h1,aa,re.mono p1 t1,q1⟩
  |false=>exact yO (q1.val aa rfl)
 |_=>exact q1.elim
def mIf(t:Ev->PH->Rs Bool)(ma mb:Me):Me:=λδ h=>(t δ h).bind λb h1=>match b with
 |true=>ma δ h1
 |false=>mb δ h1
theorem GI(ht:ST C k X c' ta)(ha:SE C k X a ma)(hb:SE C k X b mb):SE C k X (.IfExp c' a b pos) (mIf ta ma mb):=λc=>(Dv (ht c) (ha c) (hb c)).imp λσ H Q q=>by
 obtain⟨φ,δ,h,rh,re,p⟩:=q;refine⟨φ,δ,h,rh,re,(bA.bind p).imp ?_⟩;rintro b H1 ⟨φ1,h1,p1,t1,aa,q1⟩;cases b with
 |true=>exact yP ⟨φ1,δ,h1,aa,re.mono p1 t1,q1⟩
 |false=>exact yO ⟨φ1,δ,h1,aa,re.mono p1 t1,q1⟩
end
theorem RVs.atI{i:Int}{x:PV}(r:RVs C φ H xs vs)(e:L2.atI xs i=some x):∃v,L2.atI vs i=some v/\RV C φ H x v:=by
 unfold L2.atI at e⊢;rw[<-r.length];cases q:ixN xs.length i with
 |none=>rw[q]at e;cases e
 |some j=>
  rw[q]at e;exact r.at e
def ofO(o:Option PV)(h:PH):Rs PV:=match o with
 |some p=>.ok p h
 |none=>.bad
def vIx:PV->PV->PH->Rs PV:=λx y h=>match x with
 |.str z=>(match y with
  |.int i=>if z.length<=Pt then ofO ((atI z.cps.toList i).map λc=>.str ⟨#[c]⟩) h else .bad
  |_=>.bad)
 |.tup xs=>(match y with
  |.int i=>ofO (atI xs i) h
  |_=>.bad)
 |.fl xs=>(match y with
  |.int i=>ofO (atI xs i) h
  |_=>.bad)
 |.ref n=>(match aL h n with
  |some xs=>(match y with
   |.int i=>ofO (atI xs i) h
   |_=>.bad)
  |none=>(match wL h n y with
   |some o=>ofO o h
   |none=>.bad))
 |_=>.bad
theorem post.ofO{o:Option PV}{Q:VK}(q:post C φ H (ofO o h) Q):∃p,o=some p/\post C φ H (.ok p h) Q:=by
 cases o with
 |none=>exact q.elim
 |some b=>exact⟨b,rfl,q⟩
theorem LK{x:V}{Q:VK}(h:r2 C vIx x y H Q):Lh C.K x y H Q:=by
 obtain⟨φ,h,p,q,rh,rx,ry,po⟩:=h;unfold vIx at po;cases p with
 |str z=>
  cases rx
  cases q with
  |int i=>
   cases ry
   obtain⟨hz,po⟩:=po.ite;obtain⟨p,e,po⟩:=po.ofO;cases e':atI z.cps.toList i with
   |none=>rw[e']at e;cases e
   |some c=>rw[e']at e;cases e;exact⟨hz,c,e',po.val rh rfl⟩
  |_=>exact po.elim
 |tup xs=>
  obtain⟨a,vs,rfl,sa,ra⟩:=rx;cases q with
  |int i=>
   cases ry
   obtain⟨p,e,po⟩:=po.ofO;obtain⟨v,hv,rv⟩:=ra.atI e;exact .inl ⟨vs,i,v,rfl,.inr sa,hv,po.val rh rv⟩
  |_=>exact po.elim
 |fl xs=>
  obtain⟨a,vs,rfl,sa,ra⟩:=rx;cases q with
  |int i=>
   cases ry
   obtain⟨p,e,po⟩:=po.ofO;obtain⟨v,hv,rv⟩:=ra.atI e;exact .inl ⟨vs,i,v,rfl,.inl sa.sq,hv,po.val rh rv⟩
  |_=>exact po.elim
 |ref n=>
  obtain⟨a,rfl,ha⟩:=rx;dsimp only at po;cases e:aL h n with
  |some xs=>
   rw[e]at po;obtain⟨a2,vs,aq,sa,ra⟩:=bF rh e;rw[ha]at aq;cases aq;cases q with
   |int i=>
    cases ry
    obtain⟨p,e,po⟩:=po.ofO;obtain⟨v,hv,rv⟩:=ra.atI e;exact .inl ⟨vs,i,v,rfl,.inl sa,hv,po.val rh rv⟩
   |_=>exact po.elim
  |none=>
   rw[e]at po;dsimp only at po;cases e':wL h n q with
   |none=>rw[e']at po;exact po.elim
   |some o=>
    rw[e']at po;obtain⟨p,eo,po⟩:=po.ofO;obtain⟨o',g,_,hp⟩:=kY rh ha ry e';obtain⟨w,rfl,cw⟩:=hp p eo;exact .inr ⟨w,g,po.val rh cw⟩
 |_=>exact po.elim
variable{items:Array Value}{vl vu:Value}
theorem kH{t sl:Addr}{lo hi:Option Int}(ht:IsTup s.heap t items)(hs:s.heap.IsSliceOf sl vl vu .none)(pl:IsPart vl lo)(pu:IsPart vu hi)(hw:HT.sIx items.size 0 lo=0/\HT.sIx items.size items.size hi=items.size)(h:Q (.ref t) s):wpAny (model prog w) A (getItem (.ref t) (.ref sl)) Q E s:=by
 obtain⟨os,kx,qg,jv⟩:=id hs;have r9:s.TypeIs (.ref sl) "slice" := ⟨os,kx,qg⟩;unfold getItem
 try with_reducible refine Rq ?_
 first|refine Pf (Ph ?_)|skip
 refine Pf (wpAny_sequenceKey ht.typeIs (by decide) ?_);refine Pf (Qr (name:=PM "__getitem__") ht.typeIs Qn
  (Qf Qn ht.typeIs entry_tuple_getitem ?_ (args_tuple_getitem _ _)))
 show wpAny _ _ (Su (.ref t) >>= _) _ _ s
 refine Pf (tupleItemsOf_ ht ?_);refine Pf (wpAny_typeOf r9 ?_);rw[if_pos (by decide)];refine Pf (HT.sliceApplied_gen hs pl pu ?_);have l7:((((HT.sIx items.size 0 lo:Nat):Int) == 0&&(1:Int) == 1&&(HT.sIx items.size items.size hi-HT.sIx items.size 0 lo) == items.size)=true):=by
  rw[hw.1,hw.2];simp
 show wpAny _ _ (if(((HT.sIx items.size 0 lo:Nat):Int) == 0&&(1:Int) == 1&&(HT.sIx items.size items.size hi-HT.sIx items.size 0 lo) == items.size)=true then _ else _) _ _ s
 rw[if_pos l7];refine Pf ?_;unfold Builtin.Tuple.tupleIsExact;refine Pf (wpAny_typeOf ht.typeIs (Ph ?_));rw[if_pos (by decide)];refine Pf (SR ?_);exact Ph ⟨_,rfl,Ph h⟩
open PySem PySem.Spec PyProof.Rows
variable{C:MC}{k:Nat}{X:Cx}
def bC{α:Type}(xs:List α)(lo hi:Option Int):List α:=(xs.drop (HT.sIx xs.length 0 lo)).take (HT.sIx xs.length xs.length hi-HT.sIx xs.length 0 lo)
theorem RVs.cut(r:RVs C φ H xs vs)(lo hi:Option Int):RVs C φ H (bC xs lo hi) (yM vs lo hi):=by
 unfold bC yM;rw[<-r.length];exact(r.drop _).take _
def vSl:PV->Option Int->Option Int->PH->Rs PV:=λx lo hi h=>match x with
 |.str z=>if z.length<=Pt then .ok (.str (Si z lo hi)) h else .bad
 |.tup xs=>.ok (.tup (bC xs lo hi)) h
 |.ref n=>match aL h n with
  |some xs=>.ok (.ref h.length) (h++[.lst (bC xs lo hi)])
  |none=>.bad
 |.fl xs=>.ok (.ref h.length) (h++[.lst (bC xs lo hi)])
 |_=>.bad
def LL(K:Pi):V->Option Int->Option Int->Hp->VK->Prop:=λx lo hi H Q=>∃a xs,x=.ref a/\SqT K H a xs/\(HT.sIx xs.length 0 lo=0/\HT.sIx xs.length xs.length hi=xs.length)/\Q (.ref a) H
theorem Ek:SlR X (LL X.K):=by
 intro pins s σ H x v vl vu lo hi sl Q I rx hs pl pu h;obtain⟨a,xs,rfl,hx,hw,q⟩:=h;cases rx
 obtain⟨its,r,ht,hz⟩:=I.tuple hx;have hlen:its.toArray.size=xs.length:=by rw[Pq];exact r.length.symm
 refine⟨"tuple",_,Qn.lookup,ht.typeIs,?_⟩;exact kH ht hs pl pu (by rw[hlen];exact hw) ⟨.ref a,H,I,rfl,q⟩
variable{r r':V->Option Int->Option Int->Hp->VK->Prop}
theorem SlR.imp(h:SlR X r)(i:∀x lo hi H Q,r' x lo hi H Q->r x lo hi H Q):SlR X r':=λpins s σ H x v vl vu lo hi sl Q I rx hs pl pu q=>h pins s σ H x v vl vu lo hi sl Q I rx hs pl pu (i x lo hi H Q q)
def r3(C:MC)(g:PV->Option Int->Option Int->PH->Rs PV):V->Option Int->Option Int->Hp->VK->Prop:=λx lo hi H Q=>∃φ h p,RH C φ H h/\RV C φ H p x/\post C φ H (g p lo hi h) Q
theorem Jw(hK:X.K=C.K):SlR X (r3 C vSl):=by
 have e:SlR X (λx lo hi H Q=>Le x lo hi H Q\/L5 C.K x lo hi H Q\/L8 C.K x lo hi H Q\/LL C.K x lo hi H Q):=by rw[<-hK];exact Je.or (J4.or (Gk.or Ek))
 refine e.imp λx lo hi H Q h=>?_;obtain⟨φ,h,p,rh,rv,po⟩:=h;unfold vSl at po;cases p with
 |str z=>cases rv;exact .inl ⟨z,rfl,po.ite.1,po.ite.2.val rh rfl⟩
 |tup xs=>
  obtain⟨a,vs,rfl,sa,ra⟩:=rv
  by_cases hw:HT.sIx vs.length 0 lo=0/\HT.sIx vs.length vs.length hi=vs.length
  ·refine .inr (.inr (.inr ⟨a,vs,rfl,sa,hw,po.val rh ⟨a,vs,rfl,sa,?_⟩⟩));have e:bC xs lo hi=xs:=by
    unfold bC;rw[ra.length,hw.1,hw.2,List.drop_zero,Nat.sub_zero,<-ra.length,QK]
   rw[e];exact ra
  ·exact .inr (.inl ⟨a,vs,rfl,sa,hw,λp hp=>po.tnew rh (ra.cut lo hi) hp⟩)
 |ref n=>
  obtain⟨a,rfl,ha⟩:=rv;dsimp only at po;cases e:aL h n with
  |none=>rw[e]at po;exact po.elim
  |some xs=>
   rw[e]at po;obtain⟨a2,vs,aq,sa,ra⟩:=bF rh e;rw[ha]at aq;cases aq;exact .inr (.inr (.inl ⟨a,vs,rfl,sa,λp hp=>po.lnew rh (ra.cut lo hi) hp⟩))
 |fl xs=>
  obtain⟨a,vs,rfl,sa,ra⟩:=rv;exact .inr (.inr (.inl ⟨a,vs,rfl,sa.sq,λp hp=>po.lnew rh (ra.cut lo hi) hp⟩))
 |_=>exact po.elim
abbrev Mo:=Ev->PH->Rs (Option Int)
def qC(C:MC)(φ:List Addr)(H:Hp)(r:Rs (Option Int))(Q:Option Int->Hp->Prop):Prop:=match r with
 |.ok b h=>∀φ' H',φ<+:φ'->Kp H H'->RH C φ' H' h->Q b H'
 |.exc x h=>∀φ' H',φ<+:φ'->Kp H H'->RH C φ' H' h->C.ex φ' H' x
 |.bad=>False
def rdO(C:MC)(m:Mo):TO:=λσ H Q=>∃φ δ h,RH C φ H h/\RE C φ H δ σ/\qC C φ H (m δ h) Q
def SO(C:MC)(k:Nat)(X:Cx)(e:Option Expr)(m:Mo):Prop:=Cxt C k X->PO X e (rdO C m)
def nA:Mo:=λ_ h=>.ok none h
def mP(m:Me):Mo:=λδ h=>(m δ h).bind λx h1=>match x with
 |.int i=>.ok (some i) h1
 |_=>.bad
theorem Jx:SO C k X none nA:=λc pins s σ H Q I h=>by
 obtain⟨φ,δ,h,rh,re,p⟩:=h;exact Gh pins s σ H Q I (p φ H Po (Kp.refl H) rh)
theorem Jy(h:SE C k X e m):SO C k X (some e) (mP m):=λc pins s σ H Q I q=>by
 refine E1 (h c) pins s σ H Q I ?_;obtain⟨φ,δ,h,rh,re,p⟩:=q;refine⟨φ,δ,h,rh,re,?_⟩;unfold mP at p;cases e':m δ h with
 |ok x h1=>
  rw[e']at p;intro φ' v H' p' t' bg az;cases x with
  |int i=>cases az;exact p φ' H' p' t' bg
  |_=>exact p.elim
 |exc x h1=>rw[e']at p;exact p
 |bad=>rw[e']at p;exact p
def mSl(me:Me)(ml mh:Mo):Me:=λδ h=>(me δ h).bind λx h1=>(ml δ h1).bind λl h2=>(mh δ h2).bind λu h3=>vSl x l u h3
theorem qC.bind{r:Rs (Option Int)}{f:Option Int->PH->Rs PV}{Q:VK}(h:post C φ H (r.bind f) Q):qC C φ H r λb H1=>∃φ1 h1,φ<+:φ1/\Kp H H1/\RH C φ1 H1 h1/\post C φ1 H1 (f b h1) Q:=by
 cases r with
 |ok a h'=>exact λφ' H' p t rh=>⟨φ',h',p,t,rh,post.weak p t h⟩
 |exc a h'=>exact h
 |bad=>exact h
variable{Q':Option Int->Hp->Prop}
theorem qC.imp{r:Rs (Option Int)}{Q:Option Int->Hp->Prop}(h:qC C φ H r Q)(i:∀v H',Q v H'->Q' v H'):qC C φ H r Q':=by
 cases r with
 |ok a h'=>exact λφ' H' p t rh=>i a H' (h φ' H' p t rh)
 |exc a h'=>exact h
 |bad=>exact h
variable{hi lo:Option Expr}{me:Me}{mh ml:Mo}{p2:Pos}
theorem NV(he:SE C k X e me)(hl:SO C k X lo ml)(hh:SO C k X hi mh):SE C k X (.Subscript e (.Slice lo hi none p2) pos) (mSl me ml mh):=λc=>
 (DP (Jw c.K) (he c) (hl c) (hh c)).imp λσ H Q h=>by
  obtain⟨φ,δ,h,rh,re,p⟩:=h;refine⟨φ,δ,h,rh,re,(post.bind p).imp ?_⟩;rintro v H1 ⟨φ1,x,h1,p1,t1,aa,ab,q1⟩;refine⟨φ1,δ,h1,aa,re.mono p1 t1,(qC.bind q1).imp ?_⟩;rintro l H2 ⟨φ2,h2,p2,t2,ag,q2⟩;refine⟨φ2,δ,h2,ag,re.mono (p1.trans p2) (t1.trans t2),(qC.bind q2).imp ?_⟩;rintro u H3 ⟨φ3,h3,p3,t3,b8,q3⟩;exact⟨φ3,h3,x,b8,ab.mono (p2.trans p3) (t2.trans t3),q3⟩
abbrev Ma:=Ev->PH->Rs (List PV)
def aC:Ma:=λ_ h=>.ok [] h
def aA(m:Me)(ms:Ma):Ma:=λδ h=>(m δ h).bind λx h1=>(ms δ h1).bind λxs h2=>.ok (x::xs) h2
theorem PA.imp{t t':TA}(h:PA X es t)(i:∀σ H Q,t' σ H Q->t σ H Q):PA X es t':=λpos pins s σ H Q I q=>h pos pins s σ H Q I (i σ H Q q)
theorem LM:SA C k X [] aC:=λc=>Ap.imp λσ H Q h=>by
 obtain⟨φ,δ,h,rh,re,p⟩:=h;exact p φ [] H Po (Kp.refl H) rh trivial
theorem postA.imp{r:Rs (List PV)}{Q Q':List V->Hp->Prop}(h:postA C φ H r Q)(i:∀v H',Q v H'->Q' v H'):postA C φ H r Q':=by
 cases r with
 |ok a h'=>exact λφ' v H' p t rh rv=>i v H' (h φ' v H' p t rh rv)
 |exc a h'=>exact h
 |bad=>exact h
variable{ms:Ma}
theorem Jz(he:SE C k X e m)(hs:SA C k X es ms)(hh:PJ (e::es) X.env=(false,eval e X.env)::PJ es X.env:=by rfl):SA C k X (e::es) (aA m ms):=λc=>(vW (he c) (hs c) hh).imp λσ H Q h=>by
 obtain⟨φ,δ,h,rh,re,p⟩:=h;refine⟨φ,δ,h,rh,re,(post.bindA p).imp ?_⟩;rintro v H1 ⟨φ1,x,h1,p1,t1,aa,ab,q1⟩;refine⟨φ1,δ,h1,aa,re.mono p1 t1,(postA.bindA q1).imp ?_⟩;rintro vs H2 ⟨φ2,xs,h2,p2,t2,ag,bo,q2⟩;exact q2 φ2 (v::vs) H2 Po (Kp.refl H2) ag ⟨ab.mono p2 t2,bo⟩
def bZ(ms:Ma):Me:=λδ h=>(ms δ h).bind λxs h1=>if xs.length<=Pt then .ok (.tup xs) h1 else .bad
def nB(ms:Ma):Me:=λδ h=>(ms δ h).bind λxs h1=>if xs.length<=Pt then .ok (.ref h1.length) (h1++[.lst xs]) else .bad
theorem LN{x1}(hs:SA C k X es ms):SE C k X (.Tuple es x1 pos) (bZ ms):=λc=>(J1 (hs c)).imp λσ H Q h=>by
 obtain⟨φ,δ,h,rh,re,p⟩:=h;refine⟨φ,δ,h,rh,re,(postA.bind p).imp ?_⟩;rintro vs H1 ⟨φ1,xs,h1,p1,t1,aa,ab,q1⟩;exact⟨by rw[<-ab.length];exact q1.ite.1,λp hp=>q1.ite.2.tnew aa ab hp⟩
theorem LO(hs:SA C k X es ms):SE C k X (.List es pos) (nB ms):=λc=>(J2 (hs c)).imp λσ H Q h=>by
 obtain⟨φ,δ,h,rh,re,p⟩:=h;refine⟨φ,δ,h,rh,re,(postA.bind p).imp ?_⟩;rintro vs H1 ⟨φ1,xs,h1,p1,t1,aa,ab,q1⟩;exact⟨by rw[<-ab.length];exact q1.ite.1,λp hp=>q1.ite.2.lnew aa ab hp⟩
def bM:Me:=λ_ h=>.ok (.ref h.length) (h++[.dK []])
theorem GJ:SE C k X (.Dict [] [] pos) bM:=λc=>DW.imp λσ H Q h=>by
 obtain⟨φ,δ,h,rh,re,p⟩:=h;intro a ha;exact p (φ++[a]) (.ref a) _ (Qc _ _) (Kp.new ha) (rh.new ha ⟨[],aI,.nil⟩) ⟨a,rfl,by rw[<-rh.len];simp⟩
def mCB(g:List PV->PH->Rs PV)(ms:Ma):Me:=λδ h=>(ms δ h).bind g
theorem Ii{g:List PV->PH->Rs PV}{Q:VK}(h:rd C (mCB g ms) σ H Q):tCB (rL C g) (rdA C ms) σ H Q:=by
 obtain⟨φ,δ,h,rh,re,p⟩:=h;refine⟨φ,δ,h,rh,re,(postA.bind p).imp ?_⟩;rintro vs H1 ⟨φ1,xs,h1,p1,t1,aa,ab,q1⟩;exact⟨φ1,h1,xs,aa,ab,q1⟩
theorem nC{p:Pos}{id:String}{g:List PV->PH->Rs PV}(hc:kJ C k X (.builtin id) g)(hv:RB x=some (.builtin id))(ha:SA C k X (e::es) ms)(hb:x∈C.bs:=by decide)(hg:Gl X x:=by rfl)(hn:x≠"__name__" := by decide)(bq:(x == ("__debug__" : Str))=false:=by decide)(he:PJ (e::es) X.env=(false,eval e X.env)::PJ es X.env:=by rfl)(bw:(backTo pos (PJ es X.env)).any (·.1)=false:=by rfl):SE C k X (.Call (.Name x p) (e::es) [] pos) (mCB g ms):=λc=>
 (DN (hc c) hg (c.bn x hb) hv (ha c) hn bq he bw).imp λσ H Q h=>Ii h
variable{T:String}
theorem sD{p:Pos}{g:List PV->PH->Rs PV}(hc:kJ C k X (.type T) g)(hv:RB x=some (.type T))(ha:SA C k X (e::es) ms)(hb:x∈C.bs:=by decide)(hg:Gl X x:=by rfl)(hn:x≠"__name__" := by decide)(bq:(x == ("__debug__" : Str))=false:=by decide)(he:PJ (e::es) X.env=(false,eval e X.env)::PJ es X.env:=by rfl)(bw:(backTo pos (PJ es X.env)).any (·.1)=false:=by rfl):SE C k X (.Call (.Name x p) (e::es) [] pos) (mCB g ms):=λc=>
 (Cr (hc c) hg (c.bn x hb) hv (ha c) hn bq he bw).imp λσ H Q h=>Ii h
def spM(C:MC)(n:Nat)(f:Fn):Sp:=λvs H Q _=>∃φ h ps,RH C φ H h/\RVs C φ H ps vs/\ps.length=n/\post C φ H (f ps h) Q
def aO(n:Nat)(f:Fn)(ms:Ma):Me:=λδ h=>(ms δ h).bind λps h1=>if ps.length=n then f ps h1 else .bad
variable{j:Nat}
theorem s_call{p:Pos}{f:Fn}(D:Def C.K X.mg x st a fd ps)(G:bV X.prog X.w C.K X.mg X.base CX0 j a fd ps (spM C n f))(ha:SA C k X (e::es) ms)(hj:j<=k:=by decide)(hg:Gl X x:=by rfl)(bq:(x == ("__debug__" : Str))=false:=by decide)(he:PJ (e::es) X.env=(false,eval e X.env)::PJ es X.env:=by rfl)(bw:(backTo pos (PJ es X.env)).any (·.1)=false:=by rfl):
  SE C k X (.Call (.Name x p) (e::es) [] pos) (aO n f ms):=λc=>by
 have e1:=c.K;have D':Def X.K X.mg x st a fd ps:=by rw[e1];exact D
 have G':bV X.prog X.w X.K X.mg X.base CX0 j a fd ps (spM C n f):=by rw[e1];exact G
 refine(Lm D' G' (c.room.mono hj) (ha c) hg bq he bw).imp λσ H Q h=>?_;obtain⟨φ,δ,h,rh,re,p⟩:=h;refine⟨φ,δ,h,rh,re,(postA.bind p).imp ?_⟩;rintro vs H1 ⟨φ1,xs,h1,p1,t1,aa,ab,q1⟩;refine⟨φ1,h1,xs,aa,by rw[RQ];exact ab,q1.ite.1,q1.ite.2⟩
def CU:List PV->PH->Rs PV:=λxs h=>match xs with
 |[.str y]=>if y.length<=Pt then .ok (.int y.length) h else .bad
 |[.tup ys]=>.ok (.int ys.length) h
 |[.fl ys]=>.ok (.int ys.length) h
 |[.ref n]=>match aL h n with
  |some ys=>.ok (.int ys.length) h
  |none=>match h[n]? with
   |some (.dK kvs)=>.ok (.int kvs.length) h
   |_=>.bad
 |_=>.bad
theorem RVs.one{x:PV}(r:RVs C φ H [x] vs):∃v,vs=[v]/\RV C φ H x v:=by
 match vs,r with
 |[v],⟨h,_⟩=>exact⟨v,rfl,h⟩
 |[],h=>exact h.elim
 |_::_::_,⟨_,h⟩=>exact h.elim
theorem RVs.two{x y:PV}(r:RVs C φ H [x,y] vs):∃v w,vs=[v,w]/\RV C φ H x v/\RV C φ H y w:=by
 match vs,r with
 |[v,w],⟨h,h',_⟩=>exact⟨v,w,rfl,h,h'⟩
 |[],h=>exact h.elim
 |[_],⟨_,h⟩=>exact h.elim
 |_::_::_::_,⟨_,_,h⟩=>exact h.elim
set_option tactic.hygienic true in
theorem LP:kJ C k X (.builtin "len") CU:=λc=>(CB C.K c.K).imp λvs H Q h=>by
 obtain⟨φ,h,ps,rh,rv,po⟩:=h;unfold CU at po;split at po
 ·obtain⟨v,rfl,rx⟩:=rv.one;cases rx
  exact⟨po.ite.1,po.ite.2.val rh rfl⟩
 ·obtain⟨v,rfl,rx⟩:=rv.one;obtain⟨a,vs,rfl,sa,ra⟩:=rx;exact .inl ⟨vs,.inr sa,by rw[<-ra.length];exact po.val rh rfl⟩
 ·obtain⟨v,rfl,rx⟩:=rv.one;obtain⟨a,vs,rfl,sa,ra⟩:=rx;exact .inl ⟨vs,.inl sa.sq,by rw[<-ra.length];exact po.val rh rfl⟩
 ·rename_i n;obtain⟨v,rfl,rx⟩:=rv.one;obtain⟨a,rfl,ha⟩:=rx;split at po
  ·rename_i ys e;obtain⟨a2,vs,aq,sa,ra⟩:=bF rh e;rw[ha]at aq;cases aq;exact .inl ⟨vs,.inl sa,by rw[<-ra.length];exact po.val rh rfl⟩
  ·split at po
   ·rename_i kvs hk;obtain⟨ks,hH,rk⟩:=rh.at' n a _ ha hk;refine .inr ⟨ks,hH,?_⟩;have:ks.length=kvs.length:=(Qi rk).symm;rw[this];exact po.val rh rfl
   ·exact po.elim
 ·exact po.elim
def oO:List PV->PH->Rs PV:=λxs h=>match xs with
 |[.tup ys]=>.ok (.tup ys) h
 |[.fl ys]=>.ok (.tup ys) h
 |[.ref n]=>match aL h n with
  |some ys=>.ok (.tup ys) h
  |none=>.bad
 |_=>.bad
set_option tactic.hygienic true in
theorem GK:kJ C k X (.type "tuple") oO:=λc=>(yT C.K c.K).imp λvs H Q h=>by
 obtain⟨φ,h,ps,rh,rv,po⟩:=h;unfold oO at po;split at po
 ·obtain⟨v,rfl,rx⟩:=rv.one;obtain⟨a,vs,rfl,sa,ra⟩:=rx;exact⟨a,vs,rfl,.inr ⟨sa,po.val rh ⟨a,vs,rfl,sa,ra⟩⟩⟩
 ·obtain⟨v,rfl,rx⟩:=rv.one;obtain⟨a,vs,rfl,sa,ra⟩:=rx;exact⟨a,vs,rfl,.inl ⟨sa.sq,λp hp=>po.tnew rh ra hp⟩⟩
 ·rename_i n;obtain⟨v,rfl,rx⟩:=rv.one;obtain⟨a,rfl,ha⟩:=rx;split at po
  ·rename_i ys e;obtain⟨a2,vs,aq,sa,ra⟩:=bF rh e;rw[ha]at aq;cases aq;exact⟨a,vs,rfl,.inl ⟨sa,λp hp=>po.tnew rh ra hp⟩⟩
  ·exact po.elim
 ·exact po.elim
def nD:List PV->PH->Rs PV:=λxs h=>match xs with
 |[.tup ys]=>.ok (.ref h.length) (h++[.lst ys])
 |[.fl ys]=>.ok (.ref h.length) (h++[.lst ys])
 |[.ref n]=>match aL h n with
  |some ys=>.ok (.ref h.length) (h++[.lst ys])
  |none=>.bad
 |_=>.bad
set_option tactic.hygienic true in
theorem JA:kJ C k X (.type "list") nD:=λc=>(Ax C.K c.K).imp λvs H Q h=>by
 obtain⟨φ,h,ps,rh,rv,po⟩:=h;unfold nD at po;split at po
 ·obtain⟨v,rfl,rx⟩:=rv.one;obtain⟨a,vs,rfl,sa,ra⟩:=rx;exact⟨a,vs,rfl,.inr sa,λp hp=>po.lnew rh ra hp⟩
 ·obtain⟨v,rfl,rx⟩:=rv.one;obtain⟨a,vs,rfl,sa,ra⟩:=rx;exact⟨a,vs,rfl,.inl sa.sq,λp hp=>po.lnew rh ra hp⟩
 ·rename_i n;obtain⟨v,rfl,rx⟩:=rv.one;obtain⟨a,rfl,ha⟩:=rx;split at po
  ·rename_i ys e;obtain⟨a2,vs,aq,sa,ra⟩:=bF rh e;rw[ha]at aq;cases aq;exact⟨a,vs,rfl,.inl sa,λp hp=>po.lnew rh ra hp⟩
  ·exact po.elim
 ·exact po.elim
def CV:List PV->PH->Rs PV:=λxs h=>match xs with
 |[.int i,.int j]=>.ok (.int (if j>i then j else i)) h
 |_=>.bad
theorem LQ:kJ C k X (.builtin "max") CV:=λc=>(CC c.calm).imp λvs H Q h=>by
 obtain⟨φ,h,ps,rh,rv,po⟩:=h;unfold CV at po;split at po
 ·obtain⟨v,w,rfl,rx,ry⟩:=rv.two;cases rx;cases ry;exact po.val rh rfl
 ·exact po.elim
open PySem PySem.Spec PyProof.Rows
variable{C:MC}{k:Nat}{X:Cx}
def Rs.fl{α:Type}(r:Rs α)(f:α->PH->Fl):Fl:=match r with
 |.ok a h=>f a h
 |.exc x h=>.exc x h
 |.bad=>.bad
@[simp]theorem Rs.fl_ok{α:Type}(a:α)(h:PH)(f:α->PH->Fl):(Rs.ok a h).fl f=f a h:=(rfl)
theorem post.fl{r:Rs PV}{f:PV->PH->Fl}{D:Ends}(h:bJ C φ H (r.fl f) D):post C φ H r λv H1=>∃φ1 p h1,φ<+:φ1/\Kp H H1/\RH C φ1 H1 h1/\RV C φ1 H1 p v/\bJ C φ1 H1 (f p h1) D:=by
 cases r with
 |ok a h'=>exact λφ' v H' p t rh rv=>⟨φ',a,h',p,t,rh,rv,bJ.weak p t h⟩
 |exc a h'=>exact h
 |bad=>exact h
theorem bA.fl{r:Rs Bool}{f:Bool->PH->Fl}{D:Ends}(h:bJ C φ H (r.fl f) D):bA C φ H r λb H1=>∃φ1 h1,φ<+:φ1/\Kp H H1/\RH C φ1 H1 h1/\bJ C φ1 H1 (f b h1) D:=by
 cases r with
 |ok a h'=>exact λφ' H' p t rh=>⟨φ',h',p,t,rh,bJ.weak p t h⟩
 |exc a h'=>exact h
 |bad=>exact h
theorem bJ.nx{D:Ends}(q:bJ C φ H (.nx δ h) D)(rh:RH C φ H h)(re:RE C φ H δ σ):D.nx σ H:=q φ σ H Po (Kp.refl H) rh re
theorem bJ.rt{D:Ends}(q:bJ C φ H (.rt p h) D)(rh:RH C φ H h)(rv:RV C φ H p v):D.rt v H:=q φ v H Po (Kp.refl H) rh rv
abbrev Mg:=PV->Ev->Option Ev
abbrev Mgs:=List PV->Ev->Option Ev
def rdG(C:MC)(t:Mg):TG:=λv σ H Q=>∃φ δ h p δ',RH C φ H h/\RE C φ H δ σ/\RV C φ H p v/\t p δ=some δ'/\∀σ',RE C φ H δ' σ'->Q σ' H
def NW(C:MC)(t:Mgs):TGs:=λvs σ H Q=>∃φ δ h ps δ',RH C φ H h/\RE C φ H δ σ/\RVs C φ H ps vs/\t ps δ=some δ'/\∀σ',RE C φ H δ' σ'->Q σ' H
def SG(C:MC)(k:Nat)(X:Cx)(e:Expr)(t:Mg):Prop:=Cxt C k X->PG X e (rdG C t)
def SGs(C:MC)(k:Nat)(X:Cx)(es:List Expr)(t:Mgs):Prop:=Cxt C k X->PGs X es (NW C t)
def gN(i:Nat):Mg:=λp δ=>some (δ.set i (some p))
def gNl:Mgs:=λps δ=>match ps with
 |[]=>some δ
 |_::_=>none
def gCn(t:Mg)(u:Mgs):Mgs:=λps δ=>match ps with
 |p::r=>(t p δ).bind (u r)
 |[]=>none
def gTp(n:Nat)(u:Mgs):Mg:=λp δ=>match p with
 |.tup ps=>if ps.length=n then u ps δ else none
 |_=>none
theorem PG.imp{t t':TG}(h:PG X e t)(i:∀v σ H Q,t' v σ H Q->t v σ H Q):PG X e t':=λpins s σ H v u Q I r q=>h pins s σ H v u Q I r (i v σ H Q q)
theorem PGs.imp{t t':TGs}(h:PGs X es t)(i:∀v σ H Q,t' v σ H Q->t v σ H Q):PGs X es t':=λpins s σ H v u Q I r q=>h pins s σ H v u Q I r (i v σ H Q q)
theorem JB(hN:X.N.Nodup)(hi:X.N[i]?=some x:=by rfl)(hx:Loc X.env.scope x:=by first|exact Or.inl rfl|exact Or.inr rfl)(hf:X.fn x=true\/X.env.scope.names.lookup x=some .local:=by first|exact .inl rfl|exact .inr rfl):SG C k X (.Name x pos) (gN i):=λc=>
 (G5 hN hi hx hf).imp λv σ H Q h=>by
  obtain⟨φ,δ,h,p,δ',rh,re,rv,e,q⟩:=h;cases e
  exact q _ (re.set rv i)
theorem LR:SGs C k X [] gNl:=λc=>G6.imp λv σ H Q h=>by
 obtain⟨φ,δ,h,ps,δ',rh,re,rv,e,q⟩:=h;cases ps with
 |nil=>
  cases e
  cases v with
  |nil=>exact⟨rfl,q σ re⟩
  |cons=>exact rv.elim
 |cons=>cases e
theorem JC{t:Mg}{u:Mgs}(h1:SG C k X e t)(h2:SGs C k X es u)(hs:(RA (e::es) X.env).map (·.2)=assign e X.env::(RA es X.env).map (·.2):=by rfl):SGs C k X (e::es) (gCn t u):=λc=>
 (Dy (h1 c) (h2 c) hs).imp λvs σ H Q h=>by
  obtain⟨φ,δ,h,ps,δ',rh,re,rv,e,q⟩:=h;cases ps with
  |nil=>cases e
  |cons p r=>
   cases vs with
   |nil=>exact rv.elim
   |cons v vs=>
    obtain⟨δ1,e1,e2⟩:=Option.bind_eq_some_iff.mp (show(t p δ).bind (u r)=some δ' from e)
    exact⟨v,vs,rfl,φ,δ,h,p,δ1,rh,re,rv.1,e1,λσ' pe=>⟨φ,δ1,h,r,δ',rh,pe,rv.2,e2,q⟩⟩
theorem LU{u:Mgs}(h:SGs C k X es u)(hn:(RA es X.env).length=n:=by rfl)(f7:(RA es X.env).findIdx? (·.1)=none:=by rfl):SG C k X (.Tuple es j pos) (gTp n u):=λc=>
 (gT C.K c.K c.calm (h c) hn f7).imp λv σ H Q h=>by
  obtain⟨φ,δ,h,p,δ',rh,re,rv,e,q⟩:=h;cases p with
  |tup ps=>
   obtain⟨a,vs,rfl,sa,ra⟩:=rv
   by_cases hl:ps.length=n
   ·have e':u ps δ=some δ':=by
     have:(if ps.length=n then u ps δ else none)=some δ':=e;rw[if_pos hl]at this;exact this
    exact⟨a,vs,rfl,sa,by rw[<-ra.length];exact hl,φ,δ,h,ps,δ',rh,re,ra,e',q⟩
   ·have:(if ps.length=n then u ps δ else none)=some δ':=e;rw[if_neg hl]at this;cases this
  |_=>cases e
theorem PS.imp{t t':TS}(h:PS X st t)(i:∀D σ H,t' D σ H->t D σ H):PS X st t':=λpins s σ H D I q=>h pins s σ H D I (i D σ H q)
theorem PSs.imp{st:List Stmt}{t t':TS}(h:PSs X st t)(i:∀D σ H,t' D σ H->t D σ H):PSs X st t':=λpins s σ H D I q=>h pins s σ H D I (i D σ H q)
def aG(a b:Ms):Ms:=λδ h=>match a δ h with
 |.nx δ1 h1=>b δ1 h1
 |r=>r
def cQ:Ms:=λδ h=>.nx δ h
def El:Ms:=λδ h=>.ct δ h
def aS(i:Nat)(m:Me):Ms:=λδ h=>(m δ h).fl λp h1=>.nx (δ.set i (some p)) h1
def lG(m:Me)(t:Mg):Ms:=λδ h=>(m δ h).fl λp h1=>match t p δ with
 |some δ'=>.nx δ' h1
 |none=>.bad
def nE(m:Me):Ms:=λδ h=>(m δ h).fl λ_ h1=>.nx δ h1
def bD(m:Me):Ms:=λδ h=>(m δ h).fl λp h1=>.rt p h1
def bK(t:Ev->PH->Rs Bool)(a b:Ms):Ms:=λδ h=>(t δ h).fl λc h1=>match c with
 |true=>a δ h1
 |false=>b δ h1
theorem JD:SSs C k X [] cQ:=λc=>G2.imp λD σ H h=>by
 obtain⟨φ,δ,h,rh,re,p⟩:=h;exact p.nx rh re
theorem JE{r:Fl}{b:Ms}{D:Ends}(h:bJ C φ H (match r with|.nx δ1 h1=>b δ1 h1|r=>r) D):bJ C φ H r { D with nx:=rdS C b D }:=by
 cases r with
 |nx δ h'=>exact λφ' σ H' p t rh re=>⟨φ',δ,h',rh,re,bJ.weak p t h⟩
 |rt p h'=>exact h
 |bk δ h'=>exact h
 |ct δ h'=>exact h
 |exc x h'=>exact h
 |bad=>exact h
theorem GL{rest:List Stmt}{a:Ms}{b:Ms}(h1:SSt C k X st a)(h2:SSs C k X rest b):SSs C k X (st::rest) (aG a b):=λc=>(Dw (h1 c) (h2 c)).imp λD σ H h=>by
 obtain⟨φ,δ,h,rh,re,p⟩:=h;exact⟨φ,δ,h,rh,re,JE p⟩
theorem JF{a:Ms}(h1:SSt C k X st a):SSs C k X [st] a:=λc=>G3 (h1 c)
theorem LV:SSt C k X (.Continue pos) El:=λc=>yH.imp λD σ H h=>by
 obtain⟨φ,δ,h,rh,re,p⟩:=h;exact p φ σ H Po (Kp.refl H) rh re
theorem LW(hN:X.N.Nodup)(he:SE C k X e m)(hi:X.N[i]?=some x:=by rfl)(hx:Loc X.env.scope x:=by first|exact Or.inl rfl|exact Or.inr rfl)(hs:SS e (some (.Name x pos')) pos.line X.env=pure false:=by rfl)(hf:X.fn x=true\/X.env.scope.names.lookup x=some .local:=by first|exact .inl rfl|exact .inr rfl):SSt C k X (.Assign [.Name x pos'] e pos) (aS i m):=λc=>(IL hN hi hx (he c) hs hf).imp λD σ H h=>by
 obtain⟨φ,δ,h,rh,re,p⟩:=h;refine⟨φ,δ,h,rh,re,(post.fl p).imp ?_⟩;rintro v H1 ⟨φ1,x,h1,p1,t1,aa,ab,q1⟩;exact q1.nx aa ((re.mono p1 t1).set ab i)
theorem LX{t:Mg}(he:SE C k X e m)(hg:SG C k X tg t)(hs:swapsWithSole [tg] e pos.line X.env=pure false:=by rfl)(hw:swappedStores [tg] e X.env=pure none:=by rfl)(h1:(RA [tg] X.env).map (·.2)=[assign tg X.env]:=by rfl):SSt C k X (.Assign [tg] e pos) (lG m t):=λc=>(IK (he c) (hg c) hs hw h1).imp λD σ H h=>by
 obtain⟨φ,δ,h,rh,re,p⟩:=h;refine⟨φ,δ,h,rh,re,(post.fl p).imp ?_⟩;rintro v H1 ⟨φ1,x,h1,p1,t1,aa,ab,q1⟩;cases et:t x δ with
 |none=>rw[et]at q1;exact q1.elim
 |some δ'=>
  rw[et]at q1;exact⟨φ1,δ,h1,x,δ',aa,re.mono p1 t1,ab,et,λσ' pe=>q1.nx aa pe⟩
theorem LY(he:SE C k X e m)(hs:SS e none pos.line X.env=pure false:=by rfl):SSt C k X (.Expr e pos) (nE m):=λc=>(G4 (he c) hs).imp λD σ H h=>by
 obtain⟨φ,δ,h,rh,re,p⟩:=h;refine⟨φ,δ,h,rh,re,(post.fl p).imp ?_⟩;rintro v H1 ⟨φ1,x,h1,p1,t1,aa,ab,q1⟩;exact q1.nx aa (re.mono p1 t1)
theorem LZ(he:SE C k X e m):SSt C k X (.Return (some e) pos) (bD m):=λc=>(IH (he c)).imp λD σ H h=>by
 obtain⟨φ,δ,h,rh,re,p⟩:=h;refine⟨φ,δ,h,rh,re,(post.fl p).imp ?_⟩;rintro v H1 ⟨φ1,x,h1,p1,t1,aa,ab,q1⟩;exact q1.rt aa ab
variable{as:List Stmt}{vv:Expr}
theorem NX{a:Ms}{b:Ms}{bs:List Stmt}{t:Ev->PH->Rs Bool}(hc:ST C k X vv t)(ha:SSs C k X as a)(hb:SSs C k X bs b):SSt C k X (.If vv as bs pos) (bK t a b):=λc=>(KO (hc c) (ha c) (hb c)).imp λD σ H h=>by
 obtain⟨φ,δ,h,rh,re,p⟩:=h;refine⟨φ,δ,h,rh,re,(bA.fl p).imp ?_⟩;rintro d H1 ⟨φ1,h1,p1,t1,aa,q1⟩;cases d with
 |true=>exact yP ⟨φ1,δ,h1,aa,re.mono p1 t1,q1⟩
 |false=>exact yO ⟨φ1,δ,h1,aa,re.mono p1 t1,q1⟩
structure Wk where
 xs:List PV
 g:PH->Bool
def CW(C:MC)(J:It)(w:Wk)(φ0:List Addr)(H0:Hp):Prop:=∀φ H h,φ0<+:φ->Kp H0 H->RH C φ H h->w.g h=true->∀i:Nat,
 (i<w.xs.length->J.go i H/\∀x H',J.yld i H x H'->(∃p,w.xs[i]?=some p/\RV C φ H' p x)/\Kp H H'/\RH C φ H' h)/\(w.xs.length<=i->J.stop i H)
abbrev Mi:=Ev->PH->Rs Wk
def cN(C:MC)(φ:List Addr)(H:Hp)(r:Rs Wk)(R:It->Hp->Prop):Prop:=match r with
 |.ok w h=>∀φ' H' J,φ<+:φ'->Kp H H'->RH C φ' H' h->CW C J w φ' H'->R J H'
 |.exc x h=>∀φ' H',φ<+:φ'->Kp H H'->RH C φ' H' h->C.ex φ' H' x
 |.bad=>False
def rdI(C:MC)(m:Mi):TI:=λσ H R=>∃φ δ h,RH C φ H h/\RE C φ H δ σ/\cN C φ H (m δ h) R
def SI(C:MC)(k:Nat)(X:Cx)(tg iter:Expr)(m:Mi):Prop:=Cxt C k X->PI X tg iter (rdI C m)
def sE(n:Nat)(xs:List PV)(h':PH):Bool:=match aL h' n with
 |some ys=>PV.beqs ys xs
 |none=>false
def ofSeq(x:PV)(h:PH):Rs Wk:=match x with
 |.tup xs=>.ok ⟨xs,λ_=>true⟩ h
 |.ref n=>match aL h n with
  |some xs=>.ok ⟨xs,sE n xs⟩ h
  |none=>.bad
 |.fl xs=>.ok ⟨xs,λ_=>true⟩ h
 |_=>.bad
def aU(m:Me):Mi:=λδ h=>(m δ h).bind ofSeq
theorem M0(h:SE C k X iter m):SI C k X tg iter (aU m):=λc=>by
 intro pins s σ H R I q;obtain⟨φ,δ,hh,rh,re,p⟩:=q;have key:rd C m σ H λv H1=>∃φ1 x h1,φ<+:φ1/\Kp H H1/\RH C φ1 H1 h1/\RV C φ1 H1 x v/\cN C φ1 H1 (ofSeq x h1) R:=by
  refine⟨φ,δ,hh,rh,re,?_⟩;unfold aU at p;cases e:m δ hh with
  |ok x h1=>
   rw[e]at p;intro φ' v H' p' t' bg az;refine⟨φ',x,h1,p',t',bg,az,?_⟩
   show cN C φ' H' (ofSeq x h1) R
   have p0:cN C φ H (ofSeq x h1) R:=p;cases e2:ofSeq x h1 with
   |ok w h2=>rw[e2]at p0;exact λφ2 H2 J p2 t2=>p0 φ2 H2 J (p'.trans p2) (t'.trans t2)
   |exc z h2=>rw[e2]at p0;exact λφ2 H2 p2 t2=>p0 φ2 H2 (p'.trans p2) (t'.trans t2)
   |bad=>rw[e2]at p0;exact p0
  |exc x h1=>rw[e]at p;exact p
  |bad=>rw[e]at p;exact p
 refine thn (h c pins s σ H _ I key) λv s1 hz=>?_;obtain⟨x,H1,I1,r1,φ1,x',h1,p1,t1,aa,ab,q1⟩:=hz;unfold ofSeq at q1;cases x' with
 |tup xs=>
  obtain⟨a,vs,rfl,sa,ra⟩:=ab;cases r1
  rw[<-c.K]at sa;obtain⟨its,rv,p,hz⟩:=I1.tuple sa;refine wpAny_pyIter_tuple (show s1.heap.IsTuple a its.toArray from p) ?_
  refine⟨s1.heap.objs.size,[s1.heap.objs.size],_,_,H1,rfl,I1.kept (t':=s1.toks) λb o e=>Pn _ e,Ag a _,⟨_,Pr _ rfl,rfl,rfl⟩,λb hb=>?_,?_⟩
  ·have e:b=s1.heap.objs.size:=by simpa using hb
   subst e;exact I1.fpOk (Pk _) (I1.hok.fresh (Pk _))
  ·refine q1 φ1 H1 (Itt X.K a) Po (Kp.refl H1) aa λφ2 H2 h2 p2 t2 ag _ i=>⟨λhi=>?_,λhi=>⟨vs,t2.sq sa,by rw[<-ra.length];exact hi⟩⟩;have au:i<vs.length:=by rw[<-ra.length];exact hi
   refine⟨⟨vs,vs[i],t2.sq sa,by simp[au]⟩,λx H' y=>?_⟩;obtain⟨e,y⟩:=y;subst e;obtain⟨x2,e2,r2⟩:=ra.get (y vs (t2.sq sa));exact⟨⟨x2,e2,r2.mono p2 t2⟩,Kp.refl _,ag⟩
 |ref n=>
  obtain⟨a,rfl,ha⟩:=ab;cases r1
  dsimp only at q1;cases e:aL h1 n with
  |none=>rw[e]at q1;exact q1.elim
  |some xs=>
   rw[e]at q1;obtain⟨a2,vs,aq,sa,ra⟩:=bF aa e;rw[ha]at aq;cases aq;have q0:SqL X.K H1 a vs:=by rw[c.K];exact sa
   obtain⟨its,rv,p,hz⟩:=I1.list q0;refine wpAny_pyIter_list p.isList ?_;refine⟨s1.heap.objs.size,[s1.heap.objs.size],_,_,H1,rfl,I1.kept (t':=s1.toks) λb o e=>Pn _ e,uG a _,⟨_,Pr _ rfl,rfl,rfl⟩,λb hb=>?_,?_⟩
   ·have e:b=s1.heap.objs.size:=by simpa using hb
    subst e;exact I1.fpOk (Pk _) (I1.hok.fresh (Pk _))
   ·refine q1 φ1 H1 (Itl X.K a) Po (Kp.refl H1) aa λφ2 H2 h2 p2 t2 ag hg i=>?_;have hg:(match aL h2 n with|some ys=>PV.beqs ys xs|none=>false)=true:=hg
    cases e2:aL h2 n with
    |none=>rw[e2]at hg;cases hg
    |some ys=>
     rw[e2]at hg;have t7:=PV.beqs_eq hg;subst t7;obtain⟨a3,us,n8,su,ru⟩:=bF ag e2;rw[dQ p2 ha]at n8;cases n8;rw[<-c.K]at su;refine⟨λhi=>?_,λhi=>⟨us,su,by rw[<-ru.length];exact hi⟩⟩;have au:i<us.length:=by rw[<-ru.length];exact hi
     refine⟨⟨us,us[i],su,by simp[au]⟩,λx H' y=>?_⟩;obtain⟨e,y⟩:=y;subst e;obtain⟨x2,e2,r2⟩:=ru.get (y us su);exact⟨⟨x2,e2,r2⟩,Kp.refl _,ag⟩
 |fl xs=>
  obtain⟨a,vs,rfl,sa,ra⟩:=ab;cases r1
  rw[<-c.K]at sa;obtain⟨its,rv,p,hz⟩:=I1.list sa.sq;refine wpAny_pyIter_list p.isList ?_;refine⟨s1.heap.objs.size,[s1.heap.objs.size],_,_,H1,rfl,I1.kept (t':=s1.toks) λb o e=>Pn _ e,uG a _,⟨_,Pr _ rfl,rfl,rfl⟩,λb hb=>?_,?_⟩
  ·have e:b=s1.heap.objs.size:=by simpa using hb
   subst e;exact I1.fpOk (Pk _) (I1.hok.fresh (Pk _))
  ·refine q1 φ1 H1 (Itl X.K a) Po (Kp.refl H1) aa λφ2 H2 h2 p2 t2 ag _ i=>⟨λhi=>?_,λhi=>⟨vs,(t2.sf sa).sq,by rw[<-ra.length];exact hi⟩⟩;have au:i<vs.length:=by rw[<-ra.length];exact hi
   refine⟨⟨vs,vs[i],(t2.sf sa).sq,by simp[au]⟩,λx H' y=>?_⟩;obtain⟨e,y⟩:=y;subst e;obtain⟨x2,e2,r2⟩:=ra.get (y vs (t2.sf sa).sq);exact⟨⟨x2,e2,r2.mono p2 t2⟩,Kp.refl _,ag⟩
 |_=>exact q1.elim
def upTo(lo:Int):Nat->List PV
 |0=>[]
 |n+1=>.int lo::upTo (lo+1) n
theorem eJ:∀(n:Nat)(lo:Int),(upTo lo n).length=n
 |0,_=>rfl
 |n+1,lo=>by simp[upTo,eJ n]
theorem sF:∀(n:Nat)(lo:Int)(i:Nat),i<n->(upTo lo n)[i]?=some (.int (lo+i))
 |0,_,_,h=>by omega
 |n+1,lo,0,_=>by simp[upTo]
 |n+1,lo,i+1,h=>by
  simp only[upTo,Q5];rw[sF n (lo+1) i (by omega)]
  congr 2
  omega
open Classical in
noncomputable def Em:List PV->PH->Rs Wk:=λxs h=>match xs with
 |[.int j]=>if -(2 ^ 62)<=j/\j<2 ^ 62 then .ok ⟨upTo 0 j.toNat,λ_=>true⟩ h else .bad
 |_=>.bad
noncomputable def qD(ms:Ma):Mi:=λδ h=>(ms δ h).bind Em
theorem JG(lo:Int)(n:Nat)(φ:List Addr)(H:Hp):CW C (Itr lo n) ⟨upTo lo n,λ_=>true⟩ φ H:=λφ2 H2 h2 p2 t2 ag _ i=>by
 refine⟨λhi=>?_,λhi=>?_⟩
 ·have au:i<n:=by rw[<-eJ n lo];exact hi
  refine⟨au,λx H' y=>?_⟩;obtain⟨e,y⟩:=y;subst e y;exact⟨⟨.int (lo+i),sF n lo i au,rfl⟩,Kp.refl _,ag⟩
 ·have:(upTo lo n).length<=i:=hi;rw[eJ]at this;exact this
variable{R:It->Hp->Prop}
theorem postA.bindI{r:Rs (List PV)}{f:List PV->PH->Rs Wk}(h:cN C φ H (r.bind f) R):postA C φ H r λvs H1=>∃φ1 ps h1,φ<+:φ1/\Kp H H1/\RH C φ1 H1 h1/\RVs C φ1 H1 ps vs/\cN C φ1 H1 (f ps h1) R:=by
 cases r with
 |ok a h'=>
  intro φ' v H' p' t' rh rv;refine⟨φ',a,h',p',t',rh,rv,?_⟩;have p0:cN C φ H (f a h') R:=h;cases e2:f a h' with
  |ok w h2=>rw[e2]at p0;exact λφ2 H2 J p2 t2=>p0 φ2 H2 J (p'.trans p2) (t'.trans t2)
  |exc z h2=>rw[e2]at p0;exact λφ2 H2 p2 t2=>p0 φ2 H2 (p'.trans p2) (t'.trans t2)
  |bad=>rw[e2]at p0;exact p0
 |exc a h'=>exact h
 |bad=>exact h
theorem PI.imp{t t':TI}(h:PI X tg iter t)(i:∀σ H R,t' σ H R->t σ H R):PI X tg iter t':=λpins s σ H R I q=>h pins s σ H R I (i σ H R q)
set_option tactic.hygienic true in
theorem JH{x:Expr}{p:Pos}(ha:SA C k X [x] ms)(hb:("range" : Str)∈C.bs:=by decide)(hg:Gl X "range" := by rfl)(hs:PJ [x] X.env=[(false,eval x X.env)]:=by rfl):SI C k X tg (.Call (.Name "range" p) [x] [] pos) (qD ms):=λc=>
 (pr1 hg (c.bn _ hb) (ha c) hs).imp λσ H R h=>by
  obtain⟨φ,δ,h,rh,re,p⟩:=h;refine⟨φ,δ,h,rh,re,(postA.bindI p).imp ?_⟩;rintro vs H1 ⟨φ1,xs,h1,p1,t1,aa,ab,q1⟩;unfold Em at q1;split at q1
  ·obtain⟨v,rfl,rx⟩:=ab.one;cases rx
   rename_i j
   by_cases hj:-(2 ^ 62)<=j/\j<2 ^ 62
   ·rw[if_pos hj]at q1;exact⟨hj,q1 φ1 H1 _ Po (Kp.refl _) aa (JG 0 j.toNat φ1 H1)⟩
   ·rw[if_neg hj]at q1;exact q1.elim
  ·exact q1.elim
def eK(g:PH->Bool)(tg:Mg)(body:Ms):List PV->Ev->PH->Fl
 |[],δ,h=>if g h=true then .nx δ h else .bad
 |x::xs,δ,h=>if g h=true then(match tg x δ with
  |none=>.bad
  |some δ1=>match body δ1 h with
   |.nx δ2 h2=>eK g tg body xs δ2 h2
   |.ct δ2 h2=>eK g tg body xs δ2 h2
   |.bk δ2 h2=>.nx δ2 h2
   |r=>r) else .bad
def cE(mi:Mi)(tg:Mg)(body:Ms):Ms:=λδ h=>(mi δ h).fl λw h1=>eK w.g tg body w.xs δ h1
theorem cN.fl{r:Rs Wk}{f:Wk->PH->Fl}{D:Ends}(h:bJ C φ H (r.fl f) D):cN C φ H r λJ H1=>∃φ1 w h1,φ<+:φ1/\Kp H H1/\RH C φ1 H1 h1/\CW C J w φ1 H1/\bJ C φ1 H1 (f w h1) D:=by
 cases r with
 |ok a h'=>exact λφ' H' J p t rh wk=>⟨φ',a,h',p,t,rh,wk,bJ.weak p t h⟩
 |exc a h'=>exact h
 |bad=>exact h
theorem cN.imp{r:Rs Wk}{Q Q':It->Hp->Prop}(h:cN C φ H r Q)(i:∀v H',Q v H'->Q' v H'):cN C φ H r Q':=by
 cases r with
 |ok a h'=>exact λφ' H' J p t rh wk=>i J H' (h φ' H' J p t rh wk)
 |exc a h'=>exact h
 |bad=>exact h
theorem drop_cons{α:Type}{xs:List α}{p:α}(h:xs[i]?=some p):xs.drop i=p::xs.drop (i+1):=by
 obtain⟨h1,h2⟩:=Pg.mp h;rw[List.drop_eq_getElem_cons h1,h2]
variable{H0:Hp}{J:It}{body:Ms}{φ0:List Addr}
theorem GM{w:Wk}{tg:Mg}{D:Ends}(wk:CW C J w φ0 H0)(rh:RH C φ0 H0 h)(re:RE C φ0 H0 δ σ)(p:bJ C φ0 H0 (eK w.g tg body w.xs δ h) D):
  ∃W:Nat->Nat->St->Hp->Prop,(∃m,W 0 m σ H0)/\∀i m σ H,W i m σ H->
   (J.stop i H/\D.nx σ H)\/(J.go i H/\∃N:St->Hp->Prop,(∀σ' H',N σ' H'->∃m',m'<m/\W (i+1) m' σ' H')/\∀x H',J.yld i H x H'->rdG C tg x σ H' λσ2 H2=>rdS C body { D with nx:=N,ct:=N,bk:=D.nx } σ2 H2):=by
 refine⟨λi m σ H=>m=w.xs.length-i/\i<=w.xs.length/\∃φ δ h,φ0<+:φ/\Kp H0 H/\RH C φ H h/\RE C φ H δ σ/\bJ C φ H (eK w.g tg body (w.xs.drop i) δ h) D,
  ⟨w.xs.length,by simp,P8 _,φ0,δ,h,Po,Kp.refl _,rh,re,by rw[List.drop_zero];exact p⟩,?_⟩
 rintro i m σ H ⟨rfl,hi,φ,δ,h,pp,tt,rh,re,p⟩
 by_cases ba:i<w.xs.length
 ·have hd:w.xs.drop i=w.xs[i]::w.xs.drop (i+1):=drop_cons (by simp[ba]);rw[hd]at p;unfold eK at p
  by_cases hg:w.g h=true
  ·rw[if_pos hg]at p;obtain⟨go,step⟩:=(wk φ H h pp tt rh hg i).1 ba;refine .inr ⟨go,λσ' H'=>∃φ δ h,φ0<+:φ/\Kp H0 H'/\RH C φ H' h/\RE C φ H' δ σ'/\bJ C φ H' (eK w.g tg body (w.xs.drop (i+1)) δ h) D,λσ' H' ⟨φ',δ',h',q⟩=>⟨w.xs.length-(i+1),by omega,rfl,ba,φ',δ',h',q⟩,λx H' y=>?_⟩;obtain⟨⟨q,eq,rv⟩,t1,aa⟩:=step x H' y;have sr:w.xs[i]=q:=by
    have:w.xs[i]?=some w.xs[i]:=by simp[ba]
    rw[this]at eq;exact PP eq
   rw[sr]at p;cases et:tg q δ with
   |none=>rw[et]at p;exact p.elim
   |some δ1=>
    rw[et]at p;dsimp only at p;refine⟨φ,δ,h,q,δ1,aa,re.mono Po t1,rv,et,λσ2 qd=>⟨φ,δ1,h,aa,qd,?_⟩⟩;have p:=bJ.weak Po t1 p;cases eb:body δ1 h with
    |nx δ2 h2=>rw[eb]at p;exact λφ3 σ3 H3 p3 t3 b8 oo=>⟨φ3,δ2,h2,pp.trans p3,(tt.trans t1).trans t3,b8,oo,bJ.weak p3 t3 p⟩
    |ct δ2 h2=>rw[eb]at p;exact λφ3 σ3 H3 p3 t3 b8 oo=>⟨φ3,δ2,h2,pp.trans p3,(tt.trans t1).trans t3,b8,oo,bJ.weak p3 t3 p⟩
    |bk δ2 h2=>rw[eb]at p;exact p
    |rt z h2=>rw[eb]at p;exact p
    |exc z h2=>rw[eb]at p;exact p
    |bad=>rw[eb]at p;exact p
  ·rw[if_neg hg]at p;exact p.elim
 ·have e:i=w.xs.length:=by omega
  subst e;rw[List.drop_length]at p;unfold eK at p
  by_cases hg:w.g h=true
  ·rw[if_pos hg]at p;exact .inl ⟨(wk φ H h pp tt rh hg _).2 (Pk _),p.nx rh re⟩
  ·rw[if_neg hg]at p;exact p.elim
variable{mi:Mi}
theorem M1{body:List Stmt}{t:Mg}{mb:Ms}(hi:SI C k X tg iter mi)(hg:SG C k X tg t)(hb:SSs C k X body mb)(hp:PassesOwn (model X.prog X.w) X.A X.env X.xe:=by exact PassesOwn.never)(hs:∀x,QU iter X.env x=pure x:=by intro _;rfl):SSt C k X (.For tg iter body [] pos) (cE mi t mb):=λc=>(IM hp c.calm (hi c) (hg c) (hb c) hs).imp λD σ H h=>by
 obtain⟨φ,δ,h,rh,re,p⟩:=h;refine⟨φ,δ,h,rh,re,(cN.fl p).imp ?_⟩;rintro J H1 ⟨φ1,w,h1,p1,t1,aa,wk,q1⟩;exact GM wk aa (re.mono p1 t1) q1
open PySem PySem.Spec PyProof.Rows
variable{C:MC}{k:Nat}{X:Cx}
def fP(js:List (Option Nat))(δ:Ev):Ev:=js.map λo=>match o with
 |none=>none
 |some j=>wI δ j
theorem By:∀{σ:St}{i:Nat}{v:V},σ[i]?=some (some v)->DX σ i=some v
 |[],_,_,h=>by simp at h
 |x::_,0,v,h=>by
  have:x=some v:=by simpa using h
  exact this
 |_::r,n+1,v,h=>By (σ:=r) (i:=n) (by simpa using h)
theorem RE.cap(re:RE C φ H δ σ)(js:List (Option Nat)):RE C φ H (fP js δ) (hZ js σ):=by
 refine⟨by simp[fP,hZ],λi p e=>?_⟩;unfold fP at e;unfold hZ;rw[Pu]at e⊢;cases q:js[i]? with
 |none=>rw[q]at e;cases e
 |some o=>
  rw[q]at e;cases o with
  |none=>cases e
  |some j=>
   obtain⟨v,hv,rv⟩:=re.2 j p (rX (PP e));exact⟨v,by show some (DX σ j)=_;rw[By hv],rv⟩
def iS(g:PH->Bool)(tg:Mg)(tst:Ev->PH->Rs Bool)(elt:Me)(δ0:Ev)(n:Nat):List PV->PH->Rs PV
 |[],h=>if g h=true then .ok (.ref n) h else .bad
 |x::xs,h=>if g h=true then(match tg x δ0 with
  |none=>.bad
  |some δ1=>(tst δ1 h).bind λb h1=>match b with
   |false=>iS g tg tst elt δ0 n xs h1
   |true=>(elt δ1 h1).bind λp h2=>match cM h2 n with
    |some ys=>if ys.length<Pt then iS g tg tst elt δ0 n xs (h2.set n (.lst (ys++[p]))) else .bad
    |none=>.bad) else .bad
def cF(js:List (Option Nat))(mi:Mi)(tg:Mg)(tst:Ev->PH->Rs Bool)(elt:Me):Me:=λδ h=>(mi δ h).bind λw h1=>iS w.g tg tst elt (fP js δ) h1.length w.xs (h1++[.lst []])
def lH:Ev->PH->Rs Bool:=λ_ h=>.ok true h
def STs(C:MC)(k:Nat)(X:Cx)(es:List Expr)(m:Ev->PH->Rs Bool):Prop:=Cxt C k X->PTs X es (rdB C m)
theorem JI:STs C k X [] lH:=λc pins s σ H Q I h=>by
 obtain⟨φ,δ,h,rh,re,p⟩:=h;exact Gp pins s σ H Q I (p.val rh)
theorem JJ{m:Ev->PH->Rs Bool}(h:ST C k X e m):STs C k X [e] m:=λc=>Gq (h c)
theorem cN.bind{r:Rs Wk}{f:Wk->PH->Rs PV}{Q:VK}(h:post C φ H (r.bind f) Q):cN C φ H r λJ H1=>∃φ1 w h1,φ<+:φ1/\Kp H H1/\RH C φ1 H1 h1/\CW C J w φ1 H1/\post C φ1 H1 (f w h1) Q:=by
 cases r with
 |ok a h'=>exact λφ' H' J p t rh wk=>⟨φ',a,h',p,t,rh,wk,post.weak p t h⟩
 |exc a h'=>exact h
 |bad=>exact h
variable{elt:Me}{tst:Ev->PH->Rs Bool}
theorem En{w:Wk}{tg:Mg}{Q:VK}(wk:CW C J w φ0 H0)(rh:RH C φ0 H0 h)(re:RE C φ0 H0 δ σ)(p:post C φ0 H0 (iS w.g tg tst elt (fP js δ) h.length w.xs (h++[.lst []])) Q)(acc:Addr)(bx:H0 acc=none):
  ∃W:Nat->Nat->Hp->Prop,(∃m,W 0 m (upd H0 acc (.lst [])))/\∀i m H2,W i m H2->
   (J.stop i H2/\Q (.ref acc) H2)\/(J.go i H2/\∃N:Hp->Prop,(∀H',N H'->∃m',m'<m/\W (i+1) m' H')/\∀x H3,J.yld i H2 x H3->Ie js (rdG C tg) (rdB C tst) (rd C elt) σ acc x H3 N):=by
 have hlen:(φ0++[acc])[h.length]?=some acc:=by rw[<-rh.len];simp
 refine⟨λi m H=>m=w.xs.length-i/\i<=w.xs.length/\∃φ h',(φ0++[acc])<+:φ/\Kp H0 H/\RH C φ H h'/\post C φ H (iS w.g tg tst elt (fP js δ) h.length (w.xs.drop i) h') Q,
  ⟨w.xs.length,by simp,P8 _,φ0++[acc],h++[.lst []],Po,Kp.new bx,rh.new (o:=.lst []) bx ⟨[],aI,trivial⟩,by rw[List.drop_zero];exact post.weak (Qc _ _) (Kp.new bx) p⟩,?_⟩
 rintro i m H ⟨rfl,hi,φ,h',pp,tt,bg,p⟩;have sy:φ0<+:φ:=(Qc _ _).trans pp
 by_cases ba:i<w.xs.length
 ·have hd:w.xs.drop i=w.xs[i]::w.xs.drop (i+1):=drop_cons (by simp[ba]);rw[hd]at p;unfold iS at p
  by_cases hg:w.g h'=true
  ·rw[if_pos hg]at p;obtain⟨go,step⟩:=(wk φ H h' sy tt bg hg i).1 ba;refine .inr ⟨go,λH'=>∃φ h',(φ0++[acc])<+:φ/\Kp H0 H'/\RH C φ H' h'/\post C φ H' (iS w.g tg tst elt (fP js δ) h.length (w.xs.drop (i+1)) h') Q,λH' ⟨φ',h',q⟩=>⟨w.xs.length-(i+1),by omega,rfl,ba,φ',h',q⟩,λx H' y=>?_⟩;obtain⟨⟨q,eq,rv⟩,t1,aa⟩:=step x H' y;have sr:w.xs[i]=q:=by
    have:w.xs[i]?=some w.xs[i]:=by simp[ba]
    rw[this]at eq;exact PP eq
   rw[sr]at p;cases et:tg q (fP js δ) with
   |none=>rw[et]at p;exact p.elim
   |some δ1=>
    rw[et]at p;have qw:RE C φ H' (fP js δ) (hZ js σ):=(re.mono sy (tt.trans t1)).cap js;refine⟨φ,fP js δ,h',q,δ1,aa,qw,rv,et,λσ2 qd=>⟨φ,δ1,h',aa,qd,(bA.bind (post.weak Po t1 p)).imp ?_⟩⟩;rintro b H5 ⟨φ5,h5,p5,t5,rh5,q5⟩;cases b with
    |false=>exact yO ⟨φ5,h5,pp.trans p5,(tt.trans t1).trans t5,rh5,q5⟩
    |true=>
     refine yP ⟨φ5,δ1,h5,rh5,qd.mono p5 t5,(post.bind q5).imp ?_⟩;rintro v H6 ⟨φ6,z,h6,p6,t6,rh6,rv6,q6⟩;cases e6:cM h6 h.length with
     |none=>rw[e6]at q6;exact q6.elim
     |some ys=>
      rw[e6]at q6;obtain⟨hz,q6⟩:=q6.ite;have hφ:φ6[h.length]?=some acc:=dQ ((pp.trans p5).trans p6) hlen;obtain⟨vs,hH,je⟩:=rh6.at' h.length acc _ hφ (fD e6);refine⟨vs,hH,by rw[<-je.length];exact hz,φ6,h6.set h.length (.lst (ys++[z])),(pp.trans p5).trans p6,(((tt.trans t1).trans t5).trans t6).trans (Kp.lst hH),
       rh6.write hφ (by rw[hH];trivial) ⟨vs++[v],aI,(je.snoc rv6).mono Po (Kp.lst hH)⟩,post.weak Po (Kp.lst hH) q6⟩
  ·rw[if_neg hg]at p;exact p.elim
 ·have e:i=w.xs.length:=by omega
  subst e;rw[List.drop_length]at p;unfold iS at p
  by_cases hg:w.g h'=true
  ·rw[if_pos hg]at p;exact .inl ⟨(wk φ H h' sy tt bg hg _).2 (Pk _),p.val bg ⟨acc,rfl,dQ pp hlen⟩⟩
  ·rw[if_neg hg]at p;exact p.elim
theorem Bz{tg:Mg}{Q:VK}(h:rd C (cF js mi tg tst elt) σ H Q):Bs js (rdI C mi) (rdG C tg) (rdB C tst) (rd C elt) σ H Q:=by
 obtain⟨φ,δ,h,rh,re,p⟩:=h;refine⟨φ,δ,h,rh,re,(cN.bind p).imp ?_⟩;rintro J H1 ⟨φ1,w,h1,p1,t1,aa,wk,q1⟩;intro acc bx;exact En wk aa (re.mono p1 t1) q1 acc bx
theorem JK{elt:Expr}{g:Mg}{tt:Ev->PH->Rs Bool}(dz:X.env.scope=os)(iz:X.N=oN)(ok:hV os oN sc N js=true)(hi:SI C k X tg iter mi)(hg:∀C' fp s₀ H₀,SG C k (X.comp sc N C' fp s₀ H₀) tg g)(ht:∀C' fp s₀ H₀,STs C k (X.comp sc N C' fp s₀ H₀) ifs tt)(he:∀C' fp s₀ H₀,SE C k (X.comp sc N C' fp s₀ H₀) elt me)(hs:∀x,QU iter X.env x=pure x:=by intro _;rfl):SE C k X (.ListComp elt [⟨tg,iter,ifs,0⟩] sc pos) (cF js mi g tt me):=λc=>
 (Gr c.calm dz iz ok (hi c) (λa b s H=>hg a b s H (c.comp sc N a b s H)) (λa b s H=>ht a b s H (c.comp sc N a b s H)) (λa b s H=>he a b s H (c.comp sc N a b s H)) hs).imp λσ H Q h=>Bz h
theorem CY{elt:Expr}{g:Mg}{tt:Ev->PH->Rs Bool}(hN:X.N.Nodup)(cz:X.N[i]?=some x)(iu:X.env.scope.names.lookup x=some .local)(dz:X.env.scope=os)(iz:X.N=oN)(ok:hV os oN sc N js=true)(hi:SI C k X tg iter mi)(hg:∀C' fp s₀ H₀,SG C k (X.comp sc N C' fp s₀ H₀) tg g)(ht:∀C' fp s₀ H₀,STs C k (X.comp sc N C' fp s₀ H₀) ifs tt)(he:∀C' fp s₀ H₀,SE C k (X.comp sc N C' fp s₀ H₀) elt me)(o6:SS (.ListComp elt [⟨tg,iter,ifs,0⟩] sc pos) (some (.Name x pos')) cx.line X.env=pure true:=by rfl)(hs:∀x,QU iter X.env x=pure x:=by intro _;rfl):SSt C k X (.Assign [.Name x pos'] (.ListComp elt [⟨tg,iter,ifs,0⟩] sc pos) cx) (aS i (cF js mi g tt me)):=λc=>
 (Aw hN cz iu c.calm dz iz ok (hi c) (λa b s H=>hg a b s H (c.comp sc N a b s H)) (λa b s H=>ht a b s H (c.comp sc N a b s H)) (λa b s H=>he a b s H (c.comp sc N a b s H)) o6 hs).imp λD σ H h=>by
  obtain⟨φ,δ,h,rh,re,p⟩:=h;refine Bz ⟨φ,δ,h,rh,re,(post.fl p).imp ?_⟩;rintro v H1 ⟨φ1,x,h1,p1,t1,aa,ab,q1⟩;exact q1.nx aa ((re.mono p1 t1).set ab i)
def mFn(N:Nat)(body:Ms):Fn:=λargs h=>match body (args.map some++R8 (N-args.length) none) h with
 |.nx _ h'=>.ok .non h'
 |.rt p h'=>.ok p h'
 |.exc x h'=>.exc x h'
 |_=>.bad
theorem RE.start{ps:List PV}(r:RVs C φ H ps vs)(N:List Str):RE C φ H (ps.map some++R8 (N.length-ps.length) none) (start N vs):=by
 unfold L2.start;refine⟨by simp[r.length],λi p e=>?_⟩
 by_cases hi:i<ps.length
 ·rw[Ql (by simpa using hi),Pu]at e
  rw[Ql (by simpa[<-r.length] using hi),Pu]
  cases q:ps[i]? with
  |none=>rw[q]at e;cases e
  |some x=>
   rw[q]at e;cases e
   obtain⟨v,hv,rv⟩:=r.at q;exact⟨v,by rw[hv];rfl,rv⟩
 ·rw[QM (by simpa using hi)]at e
  rw[List.getElem?_replicate]at e;split at e
  ·cases e
  ·cases e
theorem Ij{base:Heap}{f:Addr}(hex:∀φ H x,¬ C.ex φ H x)(hbn:∀x∈C.bs,mg x=none)(F:Fun C.K x qual st f fd)(S:mJ N ps (aM st))(hb:∀(cdv:Value)(A:Around)(outer:List Env)(s:Shared)(H:Hp)(E:XK),SSs C k (tV CX0 P C.w C.K mg base N qual (aM st) f cdv A outer s H E).nox (bP st) body):
  bV P C.w C.K mg base CX0 (k+1) f fd ps (spM C ps.length (mFn N.length body)):=by
 refine F.ok S (λvs H Q E h=>?_) (λcdv A outer s H vs Q E hr h=>?_)
 ·obtain⟨φ,h,xs,rh,rv,hl,_⟩:=h;rw[<-rv.length];exact hl
 ·obtain⟨φ,h,xs,rh,rv,hl,p⟩:=h;refine⟨_,hb cdv A outer s H E ⟨rfl,rfl,hr,hbn,rfl⟩,φ,xs.map some++R8 (N.length-xs.length) none,h,rh,RE.start rv N,?_⟩;unfold mFn at p;cases e:body (xs.map some++R8 (N.length-xs.length) none) h with
  |nx δ h'=>rw[e]at p;exact λφ' σ' H' pp tt bg pe=>p φ' .non H' pp tt bg rfl
  |rt z h'=>rw[e]at p;exact p
  |exc z h'=>rw[e]at p;exact λφ' H' pp tt bg=>(hex _ _ _ (p φ' H' pp tt bg)).elim
  |bk δ h'=>rw[e]at p;exact p.elim
  |ct δ h'=>rw[e]at p;exact p.elim
  |bad=>rw[e]at p;exact p.elim
theorem JL{f:Fn}{Q:VK}{E:XK}(hO:DR H)(ho:SqL C.K H a (ns.map V.int))(hf:∃h,f [.fl (ns.map PV.int)] []=.ok (.bl true) h)(hQ:∀H',Q (.bl true) H'):spM C 1 f [.ref a] H Q E:=by
 have r0:∀ns:List Int,RVs C [] H (ns.map PV.int) (ns.map V.int):=by
  intro ns
  induction ns with
  |nil=>trivial
  |cons n ns ih=>exact⟨rfl,ih⟩
 have hs:SqF C.K H a (ns.map V.int):=by
  rcases ho with(h|⟨o,h⟩)|h
  ·rcases hO a with z|⟨o,xs,z⟩
   ·rw[z]at h;cases h
   ·rw[z]at h;cases h
  ·exact .inl ⟨o,h⟩
  ·exact .inr h
 refine⟨[],[],[.fl (ns.map PV.int)],⟨rfl,by simp,λn b ob h1 h2=>by simp at h1⟩,⟨⟨a,_,rfl,hs,r0 ns⟩,trivial⟩,rfl,?_⟩;obtain⟨h,e⟩:=hf;rw[e];intro φ' v H' _ _ _ rv;cases rv
 exact hQ H'
open PySem PySem.Spec PyProof.Rows
variable{C:MC}{k:Nat}{X:Cx}
def tyN(x:PV)(h:PH):Option String:=match x with
 |.non=>some "NoneType"
 |.bl _=>some "bool"
 |.int _=>some "int"
 |.str _=>some "str"
 |.tup _=>some "tuple"
 |.fl _=>some "list"
 |.ref n=>match h[n]? with
  |some (.lst _)=>some "list"
  |some (.dK _)=>some "dict"
  |_=>none
 |.ty _=>none
def nH(t c:String):Bool:=t == c || (t == "bool" && c == "int")
def known:List String:=["int","str","bool","list","tuple","dict"]
theorem JM{t c:String}(ht:t∈"NoneType" :: known)(hc:c∈known):PySem.W.kitOne K (.type t) (.type c)=some (nH t c):=by
 simp only[known,PC,List.not_mem_nil,or_false]at ht hc;rcases ht with rfl|rfl|rfl|rfl|rfl|rfl|rfl <;> rcases hc with rfl|rfl|rfl|rfl|rfl|rfl <;> rfl
def uA:List PV->PH->Rs PV:=λxs h=>match xs with
 |[x,.ty c]=>match tyN x h with
  |some t=>if c∈known then .ok (.bl (nH t c)) h else .bad
  |none=>.bad
 |_=>.bad
theorem Eo(hK:X.K=C.K):cL X (.builtin "isinstance") (λxs H Q=>∃x c t b,xs=[x,.ty c]/\(oB C.K H x (.type t)\/(∃a vs,x=.ref a/\SqT C.K H a vs/\t="tuple")\/(∃a vs,x=.ref a/\SqL C.K H a vs/\t="list"))/\PySem.W.kitOne C.K (.type t) (.type c)=some b/\Q (.bl b) H):=by
 intro pins s σ H xs us Q I r h;obtain⟨x,c,t,b,rfl,ty,e,q⟩:=h;obtain⟨u,v,rfl,ru,rv⟩:=vals2 r;cases rv
 rw[<-hK]at e ty;rcases ty with ty|⟨a,vs,rfl,sa,rfl⟩|⟨a,vs,rfl,sa,rfl⟩
 ·exact Cp I ru ty e λtk=>⟨.bl b,H,I.tok tk,rfl,q⟩
 ·cases ru
  obtain⟨its,_,⟨o,h1,h2,_⟩,_⟩:=I.tuple sa;exact Qt PySem.W.kitx_tuple I.kIn ⟨o,h1,h2⟩ e (λz=>nomatch z) λtk=>⟨.bl b,H,I.tok tk,rfl,q⟩
 ·cases ru
  obtain⟨its,_,⟨o,n,h1,h2,_⟩,_⟩:=I.list sa;exact Qt PySem.W.kitx_list I.kIn ⟨o,h1,h2⟩ e (λz=>nomatch z) λtk=>⟨.bl b,H,I.tok tk,rfl,q⟩
set_option tactic.hygienic true in
theorem wM:kJ C k X (.builtin "isinstance") uA:=λc=>(Eo c.K).imp λvs H Q h=>by
 obtain⟨φ,h,ps,rh,rv,po⟩:=h;unfold uA at po;split at po
 ·rename_i x n;obtain⟨v,w,rfl,rx,ry⟩:=rv.two;cases ry
  split at po
  ·rename_i t ht;obtain⟨hn,po⟩:=po.ite;have fin:∀{t:String},t∈"NoneType" :: known->post C φ H (.ok (.bl (nH t n)) h) Q->PySem.W.kitOne C.K (.type t) (.type n)=some (nH t n)/\Q (.bl (nH t n)) H:=λhm po=>⟨JM hm hn,po.val rh rfl⟩;unfold tyN at ht;cases x with
   |non=>cases ht;cases rx;exact⟨_,n,_,_,rfl,.inl .non,fin (by decide) po⟩
   |bl b=>cases ht;cases rx;exact⟨_,n,_,_,rfl,.inl (.bl _),fin (by decide) po⟩
   |int b=>cases ht;cases rx;exact⟨_,n,_,_,rfl,.inl (.int _),fin (by decide) po⟩
   |str b=>cases ht;cases rx;exact⟨_,n,_,_,rfl,.inl (.str _),fin (by decide) po⟩
   |tup xs=>
    cases ht
    obtain⟨a,vs,rfl,sa,ra⟩:=rx;exact⟨_,n,_,_,rfl,.inr (.inl ⟨a,vs,rfl,sa,rfl⟩),fin (by decide) po⟩
   |fl xs=>
    cases ht
    obtain⟨a,vs,rfl,sa,ra⟩:=rx;exact⟨_,n,_,_,rfl,.inr (.inr ⟨a,vs,rfl,sa.sq,rfl⟩),fin (by decide) po⟩
   |ref m=>
    obtain⟨a,rfl,ha⟩:=rx;dsimp only at ht;split at ht
    ·rename_i xs hx;cases ht
     obtain⟨vs,hH,ra⟩:=rh.at' m a _ ha hx;exact⟨_,n,_,_,rfl,.inl (.lst hH),fin (by decide) po⟩
    ·rename_i xs hx;cases ht
     obtain⟨vs,hH,ra⟩:=rh.at' m a _ ha hx;exact⟨_,n,_,_,rfl,.inl (.dK hH),fin (by decide) po⟩
    ·cases ht
   |ty z=>cases ht
  ·exact po.elim
 ·exact po.elim
def mMt(ty:PV->PH->Bool)(g:PV->List PV->PH->Rs PV)(mo:Me)(ms:Ma):Me:=λδ h=>(mo δ h).bind λx h1=>if ty x h1=true then(ms δ h1).bind λps h2=>g x ps h2 else .bad
def qN(ty:PV->PH->Bool)(g:PV->List PV->PH->Rs PV)(mo:Me):Me:=λδ h=>(mo δ h).bind λx h1=>if ty x h1=true then g x [] h1 else .bad
def rM(C:MC)(g:PV->List PV->PH->Rs PV):V->List V->Hp->VK->Prop:=λx xs H Q=>∃φ h p ps,RH C φ H h/\RV C φ H p x/\RVs C φ H ps xs/\post C φ H (g p ps h) Q
def MtS(C:MC)(k:Nat)(X:Cx)(T:String)(ty:PV->PH->Bool)(id:String)(g:PV->List PV->PH->Rs PV):Prop:=Cxt C k X->MtR X id (rM C g)/\∀φ H h p x,RH C φ H h->RV C φ H p x->ty p h=true->tyV C.K T x H
variable{af apos:Pos}{mo:Me}{name:Str}{ty:PV->PH->Bool}
theorem NY{o:Expr}{id:String}{g:PV->List PV->PH->Rs PV}(pa:PlainAttrs T)(slot:Slot T name id)(j5:typeOf (.builtin id)=pure (.type "method_descriptor"))(hm:MtS C k X T ty id g)(ho:SE C k X o mo)(ha:SA C k X (e::es) ms)(a8:R1 o name X.env (eval o X.env)=eval o X.env:=by rfl)(dg:((backTo af (PJ (e::es) X.env)).all (λx=>!x.1)&&(backToKw af (keywordEach [] X.env)).all (λx=>x.1.isSome)
   && decide ((e::es).length+([]:List Keyword).length+(if([]:List Keyword).isEmpty then 0 else 1)<30))=true:=by rfl)(a9:(apos.endLine == af.line)=true:=by rfl)(hs:PJ (e::es) X.env=(false,eval e X.env)::PJ es X.env:=by rfl)(bz:(backTo af (PJ es X.env)).any (·.1)=false:=by rfl):
  SE C k X (.Call (.Attribute o name apos) (e::es) [] af) (mMt ty g mo ms):=λc=>(L9 pa slot j5 (hm c).1 (ho c) (ha c) a8 dg a9 hs bz).imp λσ H Q h=>by
 obtain⟨φ,δ,h,rh,re,p⟩:=h;refine⟨φ,δ,h,rh,re,(post.bind p).imp ?_⟩;rintro v H1 ⟨φ1,x,h1,p1,t1,aa,ab,q1⟩;obtain⟨ht,q1⟩:=q1.ite;refine⟨by rw[c.K];exact(hm c).2 φ1 H1 h1 x v aa ab ht,φ1,δ,h1,aa,re.mono p1 t1,(postA.bind q1).imp ?_⟩;rintro vs H2 ⟨φ2,xs,h2,p2,t2,ag,bo,q2⟩;exact⟨φ2,h2,x,xs,ag,ab.mono p2 t2,bo,q2⟩
theorem MtR.imp{id:String}{r r':V->List V->Hp->VK->Prop}(h:MtR X id r)(i:∀x xs H Q,r' x xs H Q->r x xs H Q):MtR X id r':=λpins s σ H x xs v us Q I rx rs q=>h pins s σ H x xs v us Q I rx rs (i x xs H Q q)
def isL(x:PV)(h:PH):Bool:=match x with
 |.ref n=>(cM h n).isSome
 |_=>false
theorem JN{x:V}(rh:RH C φ H h)(rv:RV C φ H p x)(e:isL p h=true):tyV C.K "list" x H:=by
 cases p with
 |ref n=>
  obtain⟨a,rfl,ha⟩:=rv;obtain⟨xs,hx⟩:=Option.isSome_iff_exists.mp (show(cM h n).isSome=true from e)
  obtain⟨vs,hH,ra⟩:=rh.at' n a _ ha (fD hx);exact .inl ⟨rfl,vs,SqL.of hH⟩
 |_=>cases e
def onL(f:List PV->List PV->Option (PV×List PV)):PV->List PV->PH->Rs PV:=λx ps h=>match x with
 |.ref n=>match cM h n with
  |some xs=>match f xs ps with
   |some (r,ys)=>.ok r (h.set n (.lst ys))
   |none=>.bad
  |none=>.bad
 |_=>.bad
theorem JO{f:List PV->List PV->Option (PV×List PV)}{x:V}{xs:List V}{Q:VK}(h:rM C (onL f) x xs H Q):∃φ l ps ys vs r zs,x=.ref l/\H l=some (.lst vs)/\RVs C φ H ys vs/\RVs C φ H ps xs/\f ys ps=some (r,zs)/\
  ∀(v:V)(ws:List V),RV C φ H r v->RVs C φ H zs ws->Q v (upd H l (.lst ws)):=by
 obtain⟨φ,h,p,ps,rh,rx,rs,po⟩:=h;unfold onL at po;cases p with
 |ref n=>
  obtain⟨a,rfl,ha⟩:=rx;dsimp only at po;cases e:cM h n with
  |none=>rw[e]at po;exact po.elim
  |some ys=>
   rw[e]at po;dsimp only at po;obtain⟨vs,hH,ra⟩:=rh.at' n a _ ha (fD e);cases ef:f ys ps with
   |none=>rw[ef]at po;exact po.elim
   |some rz=>
    rw[ef]at po;obtain⟨r,zs⟩:=rz;exact⟨φ,a,ps,ys,vs,r,zs,rfl,hH,ra,rs,ef,λv ws rv cw=>po.lset rh ha hH cw rv⟩
 |_=>exact po.elim
def cK:List PV->List PV->Option (PV×List PV):=λxs ps=>match ps with
 |[p]=>if xs.length<Pt then some (.non,xs++[p]) else none
 |_=>none
set_option tactic.hygienic true in
theorem CZ:MtR X "list.append" (rM C (onL cK)):=MtR.imp (show MtR X "list.append" Bq from uL) λx xs H Q h=>by
 obtain⟨φ,l,ps,ys,vs,r,zs,rfl,hH,ra,rs,ef,q⟩:=JO h;unfold cK at ef;split at ef
 ·split at ef
  ·rename_i hz;cases ef
   obtain⟨v,rfl,rx⟩:=rs.one;exact⟨l,vs,v,rfl,rfl,hH,by rw[<-ra.length];exact hz,q .non _ rfl (ra.snoc rx)⟩
  ·cases ef
 ·cases ef
theorem Ep:MtS C k X "list" isL "list.append" (onL cK):=λc=>⟨CZ,λφ H h p x rh rv e=>JN rh rv e⟩
def M3(K:Pi):R2:=λx y H Q=>∃a b ys,x=.ref a/\y=.ref b/\SqT K H a []/\SqT K H b ys/\Q (.ref b) H
theorem GN:OpR X (QD .Add) (M3 X.K):=by
 intro pins s σ H x y v u Q I rx ry h;obtain⟨a,b,ys,rfl,rfl,ha,hb,q⟩:=h;cases rx
 cases ry
 obtain⟨its,r1,p1,_⟩:=I.tuple ha;obtain⟨cg,r2,p2,_⟩:=I.tuple hb;cases r1
 obtain⟨⟨cls,dd,data,sl⟩,ho,hc,n,hd⟩:=id p1;obtain⟨⟨o4,ju,data2,jd⟩,gw,di,n2,hd2⟩:=id p2;simp only at hc hd di hd2;subst hc hd di hd2;exact concat_meets ⟨_,ho,rfl⟩ ⟨_,gw,rfl⟩ noFill_tuple_add seq_tuple_add PySem.F.slot_tuple_add PySem.F.entry_tuple_add (PySem.F.args_tuple_add_2 _ _)
   (tuple_addW0 a b ([]:List Value).toArray cg.toArray n n2 dd ju sl jd (by simp)) ⟨ho,gw,⟨.ref b,H,I,rfl,q⟩⟩
def bT:PV->PV->PH->Rs PV:=λx y h=>match x,y with
 |.tup [],.tup ys=>.ok (.tup ys) h
 |x,y=>Ee x y h
theorem JP:OpS C k X (QD .Add) bT:=λc=>((Lw c).or (by have:=GN (X:=X);rw[c.K]at this;exact this)).imp λx y H Q h=>by
 obtain⟨φ,h,p,q,rh,rx,ry,po⟩:=h;unfold bT at po;split at po
 ·obtain⟨a,vs,rfl,sa,ra⟩:=rx;obtain⟨b,us,rfl,sb,rb⟩:=ry;have:vs=[]:=by cases vs <;> first|rfl|exact ra.elim
  subst this;exact .inr ⟨a,b,us,rfl,rfl,sa,sb,po.val rh ⟨b,us,rfl,sb,rb⟩⟩
 ·exact .inl ⟨φ,h,p,q,rh,rx,ry,po⟩
open PySem PySem.Spec PyProof.Rows
variable{C:MC}{k:Nat}{X:Cx}
theorem M4:UnS C k X (unaryOp .USub) CQ:=λc=>by
 have h:UnR X (unaryOp .USub) (rU λi=>.int (-i)):=IW;intro pins s σ H x v Q I rx q;refine h pins s σ H x v Q I rx ?_;obtain⟨φ,h,p,rh,rv,po⟩:=q;unfold CQ at po;cases p with
 |int i=>cases rv;exact⟨i,rfl,po.val rh rfl⟩
 |_=>exact po.elim
open PySem
@[irreducible]def Rs.W{α:Type}(r:Rs α)(Q:α->PH->Prop):Prop:=match r with
 |.ok a h=>Q a h
 |_=>False
structure FE where
 nx:Ev->PH->Prop
 rt:PV->PH->Prop
 bk:Ev->PH->Prop:=λ_ _=>False
 ct:Ev->PH->Prop:=λ_ _=>False
@[irreducible]def Fl.W(r:Fl)(E:FE):Prop:=match r with
 |.nx δ h=>E.nx δ h
 |.rt p h=>E.rt p h
 |.bk δ h=>E.bk δ h
 |.ct δ h=>E.ct δ h
 |_=>False
@[irreducible]def Lt(b:Ms)(E:FE)(δ:Ev)(h:PH):Prop:=(b δ h).W E
variable{h1:PH}{args:List PV}
section
unseal Rs.W Fl.W Lt
variable{α β:Type}{Q:α->PH->Prop}{E:FE}
@[simp]theorem oP{a:α}:(Rs.ok a h).W Q=Q a h:=(rfl)
@[simp]theorem NZ:(Fl.nx δ h).W E=E.nx δ h:=(rfl)
@[simp]theorem Oq:(Fl.rt p h).W E=E.rt p h:=(rfl)
@[simp]theorem AO{Q:β->PH->Prop}{r:Rs α}{f:α->PH->Rs β}:(r.bind f).W Q=r.W λa h=>(f a h).W Q:=by cases r <;> rfl
@[simp]theorem D0{r:Rs α}{f:α->PH->Fl}:(r.fl f).W E=r.W λa h=>(f a h).W E:=by cases r <;> rfl
theorem Er{Q':α->PH->Prop}{r:Rs α}(h:r.W Q)(i:∀a h,Q a h->Q' a h):r.W Q':=by cases r <;> first|exact i _ _ h|exact h
@[simp]theorem Oh{c:Prop}[Decidable c]{x y:Rs α}:(if c then x else y).W Q=if c then x.W Q else y.W Q:=by split <;> rfl
@[simp]theorem Oi:(Rs.bad:Rs α).W Q=False:=(rfl)
@[simp]theorem O0:Fl.bad.W E=False:=(rfl)
theorem lI{r:Rs α}(w:r.W Q):∃a h,r=.ok a h/\Q a h:=by
 cases r with
 |ok a h=>exact⟨a,h,rfl,w⟩
 |exc=>exact w.elim
 |bad=>exact w.elim
variable{a b:Ms}{t ta tb:Ev->PH->Rs Bool}{g g':PV->PV->PH->Rs PV}
theorem aD:(aG a b δ h).W E=(a δ h).W { E with nx:=Lt b E }:=by
 show(match a δ h with|.nx δ1 h1=>b δ1 h1|r=>r).W E=_
 cases a δ h <;> rfl
theorem now{b:Ms}(w:(b δ h).W E):Lt b E δ h:=w
@[simp]theorem Oj:(cQ δ h).W E=E.nx δ h:=(rfl)
@[simp]theorem Ol:(El δ h).W E=E.ct δ h:=(rfl)
@[simp]theorem BA:(aS i m δ h).W E=(m δ h).W λp h=>E.nx (δ.set i (some p)) h:=by simp[aS]
@[simp]theorem Om{t:Mg}:(lG m t δ h).W E=(m δ h).W λp h=>∃δ',t p δ=some δ'/\E.nx δ' h:=by
 unfold lG;cases m δ h with
 |ok p h1=>
  show(match t p δ with|some δ'=>Fl.nx δ' h1|none=>.bad).W E=∃δ',t p δ=some δ'/\E.nx δ' h1
  cases t p δ <;> simp[Fl.W]
 |exc=>rfl
 |bad=>rfl
@[simp]theorem M5:(nE m δ h).W E=(m δ h).W λ_ h=>E.nx δ h:=by simp[nE]
@[simp]theorem M6:(bD m δ h).W E=(m δ h).W E.rt:=by simp[bD]
@[simp]theorem cG:(bK t a b δ h).W E=(t δ h).W λc h=>if c=true then(a δ h).W E else(b δ h).W E:=by
 unfold bK;rw[D0]
 congr
 funext c h
 cases c <;> simp
@[simp]theorem M7:mV i δ h=match wI δ i with|some p=>.ok p h|none=>.bad:=(rfl)
@[simp]theorem M8:mC p δ h=.ok p h:=(rfl)
@[simp]theorem GO:aB g ma mb δ h=(ma δ h).bind λx h1=>(mb δ h1).bind λy h2=>g x y h2:=(rfl)
@[simp]theorem O1{g:PV->PH->Rs PV}:mUn g ma δ h=(ma δ h).bind g:=(rfl)
@[simp]theorem MW:aQ m δ h=(m δ h).bind tru:=(rfl)
@[simp]theorem M9:Bx t δ h=(t δ h).bind λb h1=>.ok (!b) h1:=(rfl)
@[simp]theorem Mb:jF ta tb δ h=(ta δ h).bind λb h1=>if b=true then tb δ h1 else .ok false h1:=by
 unfold jF;congr 1;funext b h1;cases b <;> simp
@[simp]theorem MX:Ej ta tb δ h=(ta δ h).bind λb h1=>if b=true then .ok true h1 else tb δ h1:=by
 unfold Ej;congr 1;funext b h1;cases b <;> simp
@[simp]theorem O2:mIf t ma mb δ h=(t δ h).bind λb h1=>if b=true then ma δ h1 else mb δ h1:=by
 unfold mIf;congr 1;funext b h1;cases b <;> simp
def bl2(x:PV)(f g:Rs PV):Rs PV:=match x with
 |.bl true=>f
 |.bl false=>g
 |_=>.bad
@[simp]theorem O3{b:Bool}{f g:Rs PV}:bl2 (.bl b) f g=if b=true then f else g:=by cases b <;> simp[bl2]
set_option tactic.hygienic true in
@[simp]theorem Mc:qB ma mb δ h=(ma δ h).bind λx h1=>bl2 x (mb δ h1) (.ok (.bl false) h1):=by
 unfold qB;first|rfl|(congr 1;funext x h1;cases x <;> first|rfl|(rename_i b;cases b <;> rfl))
set_option tactic.hygienic true in
@[simp]theorem MY:AN g g' ma mb mc δ h=(ma δ h).bind λx h1=>(mb δ h1).bind λy h2=>(g x y h2).bind λz h3=>bl2 z ((mc δ h3).bind λw h4=>(g' y w h4).bind Ei) (.ok (.bl false) h3):=by
 unfold AN;first|rfl|(congr 1;funext x h1;congr 1;funext y h2;congr 1;funext z h3;cases z <;> first|rfl|(rename_i b;cases b <;> rfl))
@[simp]theorem Md{b:Bool}:Ei (.bl b) h=.ok (.bl b) h:=(rfl)
@[simp]theorem GP:bZ ms δ h=(ms δ h).bind λxs h1=>if xs.length<=Pt then .ok (.tup xs) h1 else .bad:=(rfl)
@[simp]theorem MZ:nB ms δ h=(ms δ h).bind λxs h1=>if xs.length<=Pt then .ok (.ref h1.length) (h1++[.lst xs]) else .bad:=(rfl)
@[simp]theorem D1:bM δ h=.ok (.ref h.length) (h++[.dK []]):=(rfl)
@[simp]theorem BB:aC δ h=.ok [] h:=(rfl)
@[simp]theorem sG:aA m ms δ h=(m δ h).bind λx h1=>(ms δ h1).bind λxs h2=>.ok (x::xs) h2:=(rfl)
@[simp]theorem JQ{g:List PV->PH->Rs PV}:mCB g ms δ h=(ms δ h).bind g:=(rfl)
@[simp]theorem gK{f:Fn}:aO n f ms δ h=(ms δ h).bind λps h1=>if ps.length=n then f ps h1 else .bad:=(rfl)
@[simp]theorem N0:nA δ h=.ok none h:=(rfl)
def Es(x:PV)(h:PH):Rs (Option Int):=match x with
 |.int i=>.ok (some i) h
 |_=>.bad
@[simp]theorem JR{i:Int}:Es (.int i) h=.ok (some i) h:=(rfl)
@[simp]theorem On:mP m δ h=(m δ h).bind Es:=(rfl)
@[simp]theorem O4:mSl m ml mh δ h=(m δ h).bind λx h1=>(ml δ h1).bind λl h2=>(mh δ h2).bind λu h3=>vSl x l u h3:=(rfl)
@[simp]theorem O5{g:PV->List PV->PH->Rs PV}:mMt ty g m ms δ h=(m δ h).bind λx h1=>if ty x h1=true then(ms δ h1).bind λps h2=>g x ps h2 else .bad:=(rfl)
@[simp]theorem N1{g:PV->List PV->PH->Rs PV}:qN ty g m δ h=(m δ h).bind λx h1=>if ty x h1=true then g x [] h1 else .bad:=(rfl)
@[simp]theorem iC:Pt=16777216:=by rw[QE]
theorem GQ{i j:Int}(c:(-18446744073709551616<i/\i<18446744073709551616)\/(-18446744073709551616<j/\j<18446744073709551616)):wJ (.int i) (.int j) h=.ok (.int (i*j)) h:=by
 show(if yJ i j then _ else _)=_
 exact if_pos c
@[simp]theorem Mf{i j:Int}(c:(-18446744073709551616<i/\i<18446744073709551616)\/(-18446744073709551616<j/\j<18446744073709551616)):vInt yJ (λi j=>i*j) (.int i) (.int j) h=.ok (.int (i*j)) h:=GQ c
@[simp]theorem N2{i j:Int}(c:0<j/\j<1073741824):vInt DA (λi j=>i/j) (.int i) (.int j) h=.ok (.int (i/j)) h:=if_pos c
@[simp]theorem N3{i j:Int}(c:0<j):vInt (λ_ j=>0<j) (λi j=>i%j) (.int i) (.int j) h=.ok (.int (i%j)) h:=if_pos c
@[simp]theorem N4{i j:Int}(c:0<=j/\j<=1000000/\-18446744073709551616<i/\i<18446744073709551616):vInt Cg (λi j=>i ^ j.toNat) (.int i) (.int j) h=.ok (.int (i ^ j.toNat)) h:=by
 show(if Cg i j then _ else _)=_
 refine if_pos ⟨c.1,c.2.1,?_⟩;obtain⟨_,_,h1,h2⟩:=c;omega
@[simp]theorem N5{i j:Int}:tZ (.int i) (.int j) h=.ok (.int (i-j)) h:=(rfl)
@[simp]theorem N6{i:Int}:CQ (.int i) h=.ok (.int (-i)) h:=(rfl)
@[simp]theorem D2{i j:Int}:bT (.int i) (.int j) h=.ok (.int (i+j)) h:=(rfl)
@[simp]theorem KC{y:Str}(c:x.length+y.length<=16777216):bT (.str x) (.str y) h=.ok (.str (x++y)) h:=if_pos c
@[simp]theorem Mh{f:Int->Int->Bool}{g:List Nat->List Nat->Bool}{i j:Int}:CS f g (.int i) (.int j) h=.ok (.bl (f i j)) h:=(rfl)
@[simp]theorem O6{b:Bool}:tru (.bl b) h=.ok b h:=(rfl)
@[simp]theorem Mj:ofO (some p) h=.ok p h:=(rfl)
@[simp]theorem N7{i:Int}:vIx (.tup xs) (.int i) h=ofO (atI xs i) h:=(rfl)
theorem kA{i:Int}(e:h[n]?=some (.lst xs)):vIx (.ref n) (.int i) h=ofO (atI xs i) h:=by simp[vIx,aL,e]
@[simp]theorem qU{z:Str}{i:Int}(c:z.length<=16777216):vIx (.str z) (.int i) h=ofO ((atI z.cps.toList i).map λc=>.str ⟨#[c]⟩) h:=if_pos c
theorem Et(e:h[n]?=some (.lst xs)):CU [.ref n] h=.ok (.int xs.length) h:=by simp[CU,aL,e]
@[simp]theorem N8{i j:Int}:CV [.int i,.int j] h=.ok (.int (if j>i then j else i)) h:=(rfl)
@[simp]theorem Ml{i:Str}{c:String}:uA [.str i,.ty c] h=if c∈known then .ok (.bl (nH "str" c)) h else .bad:=(rfl)
theorem Eu{c:String}(e:h[n]?=some (.lst xs)):uA [.ref n,.ty c] h=if c∈known then .ok (.bl (nH "list" c)) h else .bad:=by simp[uA,tyN,e]
theorem nI(e:h[n]?=some (.lst xs)):isL (.ref n) h=true:=by simp[isL,cM,e]
theorem fE(e:h[n]?=some (.lst xs))(c:xs.length<16777216):onL cK (.ref n) [p] h=.ok .non (h.set n (.lst (xs++[p]))):=by simp[onL,cM,e,cK,c]
theorem GR{α:Type}{xs:List α}{i:Int}(h0:0<=i)(h1:i<xs.length):atI xs i=xs[i.toNat]?:=by
 unfold atI ixN;rw[if_pos h0,if_pos h1];rfl
theorem oQ{g:PH->Bool}{tg:Mg}{body:Ms}{E:FE}(I:Nat->Ev->PH->Prop):∀(xs:List PV)(k:Nat)(δ:Ev)(h:PH),I k δ h->
  (∀i x δ h,k<=i->xs[i-k]?=some x->I i δ h->g h=true/\∃δ1,tg x δ=some δ1/\(body δ1 h).W { nx:=I (i+1),ct:=I (i+1),rt:=E.rt,bk:=E.nx })->
  (∀δ h,I (k+xs.length) δ h->g h=true/\E.nx δ h)->(eK g tg body xs δ h).W E
 |[],k,δ,h,i0,_,fin=>by
  obtain⟨h1,h2⟩:=fin δ h i0;simp[eK,h1,h2]
 |x::xs,k,δ,h,i0,step,fin=>by
  obtain⟨h1,δ1,h2,h3⟩:=step k x δ h (Pk _) (by simp) i0;have go:∀δ2 h2,I (k+1) δ2 h2->(eK g tg body xs δ2 h2).W E:=λδ2 h2 i2=>
   oQ I xs (k+1) δ2 h2 i2 (λi y δ h hk hy=>step i y δ h (by omega) (by
    have:i-k=(i-(k+1))+1:=by omega
    rw[this,Q5];exact hy)) (λδ h hi=>fin δ h (by
    have e:k+(x::xs).length=k+1+xs.length:=by simp;omega
    rw[e];exact hi))
  unfold eK;rw[if_pos h1,h2]
  show Fl.W (match body δ1 h with|.nx δ2 h2=>eK g tg body xs δ2 h2|.ct δ2 h2=>eK g tg body xs δ2 h2|.bk δ2 h2=>.nx δ2 h2|r=>r) E
  cases e:body δ1 h with
  |nx δ2 h2=>rw[e]at h3;exact go δ2 h2 h3
  |ct δ2 h2=>rw[e]at h3;exact go δ2 h2 h3
  |bk δ2 h2=>rw[e]at h3;exact h3
  |rt p h2=>rw[e]at h3;exact h3
  |exc=>rw[e]at h3;exact h3
  |bad=>rw[e]at h3;exact h3
theorem AQ{j:Int}(I:Nat->Ev->PH->Prop)(e:ms δ h=.ok [.int j] h)(hj:-4611686018427387904<=j/\j<4611686018427387904)(h0:I 0 δ h)(step:∀(q:Nat) δ h,(q:Int)<j->I q δ h->(body (δ.set i (some (.int q))) h).W { nx:=I (q+1),ct:=I (q+1),rt:=E.rt,bk:=E.nx })(fin:∀δ h,I j.toNat δ h->E.nx δ h):(cE (qD ms) (gN i) body δ h).W E:=by
 unfold cE qD;rw[e];have oe:-(2 ^ 62)<=j/\j<2 ^ 62:=hj;simp only[Rs.bind_ok,Em,if_pos oe,Rs.fl_ok];refine oQ I _ 0 δ h h0 (λq x δ h _ hx hi=>?_) (λδ h hi=>⟨rfl,fin δ h (by rw[eJ,Nat.zero_add]at hi;exact hi)⟩);have hq:q<j.toNat:=by
  have:=(Pg.mp hx).1;rw[eJ]at this;omega
 rw[Nat.sub_zero,sF _ _ _ hq]at hx;cases hx
 refine⟨rfl,_,rfl,?_⟩;rw[Int.zero_add];exact step q δ h (by omega) hi
theorem fF{tg:Mg}(I:Nat->Ev->PH->Prop)(e:m δ h=.ok (.ref n) h1)(hn:h1[n]?=some (.lst xs))(h0:I 0 δ h1)(keep:∀q δ h,q<=xs.length->I q δ h->h[n]?=some (.lst xs))(step:∀(q:Nat) x δ h,xs[q]?=some x->I q δ h->∃δ1,tg x δ=some δ1/\(body δ1 h).W { nx:=I (q+1),ct:=I (q+1),rt:=E.rt,bk:=E.nx })(fin:∀δ h,I xs.length δ h->E.nx δ h):(cE (aU m) tg body δ h).W E:=by
 have hk:∀{h:PH},h[n]?=some (.lst xs)->sE n xs h=true:=λ{h} e=>by
  have e3:aL h n=some xs:=by unfold aL;rw[e]
  unfold sE;rw[e3];exact PV.beqs_self xs
 unfold cE aU;rw[e];have e2:ofSeq (.ref n) h1=.ok ⟨xs,sE n xs⟩ h1:=by
  have e3:aL h1 n=some xs:=by unfold aL;rw[hn]
  unfold ofSeq;simp only[e3]
 rw[Rs.bind_ok,e2,Rs.fl_ok];refine oQ I _ 0 δ h1 h0 (λq x δ h _ hx hi=>?_) (λδ h hi=>?_)
 ·have cz:xs[q]?=some x:=by simpa using hx
  have:=(Pg.mp cz).1;exact⟨hk (keep q δ h (by omega) hi),step q x δ h cz hi⟩
 ·have au:I xs.length δ h:=by simpa using hi
  exact⟨hk (keep _ δ h (Pk _) au),fin δ h au⟩
theorem cA{N:Nat}{Q:PV->PH->Prop}(w:(body (args.map some++R8 (N-args.length) none) h).W { nx:=λ_ h=>Q .non h,rt:=Q }):(mFn N body args h).W Q:=by
 unfold mFn;cases e:body (args.map some++R8 (N-args.length) none) h with
 |nx δ h'=>rw[e]at w;exact w
 |rt p h'=>rw[e]at w;exact w
 |_=>rw[e]at w;exact w.elim
@[simp]theorem Oo:gN i p δ=some (δ.set i (some p)):=(rfl)
@[simp]theorem O7{u:Mgs}{ps:List PV}:gTp n u (.tup ps) δ=if ps.length=n then u ps δ else none:=(rfl)
@[simp]theorem O8{t:Mg}{u:Mgs}{r:List PV}:gCn t u (p::r) δ=(t p δ).bind (u r):=(rfl)
@[simp]theorem O9:gNl [] δ=some δ:=(rfl)
end
def Ext(h h':PH):Prop:=∀(n:Nat)(o:MO),h[n]?=some o->h'[n]?=some o
theorem Ext.refl(h:PH):Ext h h:=λ_ _ e=>e
variable{h2:PH}
theorem Ext.trans(a:Ext h h1)(b:Ext h1 h2):Ext h h2:=λn o e=>b n o (a n o e)
theorem Ext.app(h g:PH):Ext h (h++g):=λn o e=>by
 rw[Ql (Pg.mp e).1];exact e
theorem Ext.len{h':PH}(e:Ext h h'):h.length<=h'.length:=by
 rcases Nat.lt_or_ge h'.length h.length with z|z
 ·have:h[h'.length]?=some h[h'.length]:=by simp[z]
  have:=(Pg.mp (e _ _ this)).1;omega
 ·exact z
theorem aF:(h++[o])[h.length]?=some o:=by simp
variable{o':MO}
theorem bB(e:h[n]?=some o):(h.set n o')[n]?=some o':=QQ (Pg.mp e).1
theorem aK{m:Nat}(e:h[m]?=some o)(d:n≠m):(h.set n o')[m]?=some o:=by rw[PQ d];exact e
def PV.pl:Nat->PV->Bool
 |_,.non=>true
 |_,.int _=>true
 |_,.str _=>true
 |n+1,.tup xs=>xs.all (PV.pl n)
 |_,_=>false
theorem BC{x:PV}{d:D}{ds:List D}(h1:x.d=some d)(h2:PV.ds xs=some ds):PV.ds (x::xs)=some (d::ds):=by simp[PV.ds,h1,h2]
theorem Mm{ds:List D}(h:PV.ds xs=some ds):(PV.tup xs).d=some (.tup ds):=by simp[PV.d,h]
set_option tactic.hygienic true in
theorem bE{d:D}(h:(PV.tup xs).d=some d):∃ds,PV.ds xs=some ds/\d=.tup ds:=by
 unfold PV.d at h;split at h
 ·rename_i ds e;cases h;exact⟨ds,e,rfl⟩
 ·cases h
set_option tactic.hygienic true in
theorem cZ{x:PV}{ds:List D}(h:PV.ds (x::xs)=some ds):∃d r,x.d=some d/\PV.ds xs=some r/\ds=d::r:=by
 unfold PV.ds at h;split at h
 ·rename_i d r e1 e2;cases h;exact⟨d,r,e1,e2,rfl⟩
 ·cases h
theorem jG:∀(n:Nat)(x:PV),x.pl n=true->∃d,x.d=some d/\d.depth<=n:=by
 intro n
 induction n with
 |zero=>
  intro x h;cases x <;> first|exact⟨_,rfl,Pk _⟩|(simp[PV.pl]at h)
 |succ n ih=>
  intro x h;cases x with
  |tup xs=>
   have h:xs.all (PV.pl n)=true:=h;have many:∀(xs:List PV),xs.all (PV.pl n)=true->∃ds,PV.ds xs=some ds/\D.depths ds<=n:=by
    intro xs
    induction xs with
    |nil=>intro _;exact⟨[],rfl,P8 _⟩
    |cons x xs ihx=>
     intro h;simp only[RC,PF]at h;obtain⟨d,h1,h2⟩:=ih x h.1;obtain⟨ds,h3,h4⟩:=ihx h.2;refine⟨d::ds,BC h1 h3,?_⟩
     show max d.depth (D.depths ds)<=n
     omega
   obtain⟨ds,h1,h2⟩:=many xs h;refine⟨.tup ds,Mm h1,?_⟩
   show D.depths ds+1<=n+1
   omega
  |_=>first|exact⟨_,rfl,P8 _⟩|(simp[PV.pl]at h)
theorem BD:∀(n:Nat)(x y:PV)(d e:D),x.pl n=true->y.pl n=true->x.d=some d->y.d=some e->eqD d e=decide (x=y):=by
 intro n
 induction n with
 |zero=>
  intro x y d e hx hy h1 h2;cases x <;> first|(simp[PV.pl]at hx;done)|skip
  all_goals cases h1
  all_goals cases y <;> first|(simp[PV.pl]at hy;done)|skip
  all_goals cases h2
  all_goals simp only[eqD]
  all_goals rw[Rk]
  all_goals simp
 |succ n ih=>
  intro x y d e hx hy h1 h2;have lists:∀(xs ys:List PV)(ds es:List D),xs.all (PV.pl n)=true->ys.all (PV.pl n)=true->PV.ds xs=some ds->PV.ds ys=some es->eY ds es=decide (xs=ys):=by
   intro xs
   induction xs with
   |nil=>
    intro ys ds es _ _ h1 h2;cases h1
    cases ys with
    |nil=>cases h2;rfl
    |cons y ys=>obtain⟨d,r,_,_,rfl⟩:=cZ h2;simp[eY]
   |cons x xs ihx=>
    intro ys ds es hx hy h1 h2;obtain⟨d,r,g1,g2,rfl⟩:=cZ h1;simp only[RC,PF]at hx;cases ys with
    |nil=>cases h2;simp[eY]
    |cons y ys=>
     obtain⟨e,q,g3,g4,rfl⟩:=cZ h2;simp only[RC,PF]at hy;simp only[eY,ih x y d e hx.1 hy.1 g1 g3,ihx ys r q hx.2 hy.2 g2 g4];rw[Rk];simp
  cases x with
  |tup xs=>
   obtain⟨ds,g1,rfl⟩:=bE h1;cases y with
   |tup ys=>
    obtain⟨es,g2,rfl⟩:=bE h2;simp only[eqD,lists xs ys ds es hx hy g1 g2];rw[Rk];simp
   |non=>cases h2;simp[eqD]
   |int j=>cases h2;simp[eqD]
   |str j=>cases h2;simp[eqD]
   |_=>simp[PV.pl]at hy
  |non=>
   cases h1
   cases y with
   |tup ys=>obtain⟨es,g2,rfl⟩:=bE h2;simp[eqD]
   |non=>cases h2;simp[eqD]
   |int j=>cases h2;simp[eqD]
   |str j=>cases h2;simp[eqD]
   |_=>simp[PV.pl]at hy
  |int i=>
   cases h1
   cases y with
   |tup ys=>obtain⟨es,g2,rfl⟩:=bE h2;simp[eqD]
   |non=>cases h2;simp[eqD]
   |int j=>cases h2;simp only[eqD];rw[Rk];simp
   |str j=>cases h2;simp[eqD]
   |_=>simp[PV.pl]at hy
  |str i=>
   cases h1
   cases y with
   |tup ys=>obtain⟨es,g2,rfl⟩:=bE h2;simp[eqD]
   |non=>cases h2;simp[eqD]
   |int j=>cases h2;simp[eqD]
   |str j=>cases h2;simp only[eqD];rw[Rk];simp
   |_=>simp[PV.pl]at hy
  |_=>simp[PV.pl]at hx
theorem BE{x:PV}{y:PV}(hx:x.pl 40=true)(hy:y.pl 40=true):wK x y h=some (decide (x=y)):=by
 obtain⟨d,h1,h2⟩:=jG 40 x hx;obtain⟨e,h3,h4⟩:=jG 40 y hy;unfold wK;rw[h1,h3];simp only[h2,if_true,BD 40 x y d e hx hy h1 h3]
theorem wN{x:PV}{y:PV}(hx:x.pl 40=true)(hy:y.pl 40=true):vEq x y h=.ok (.bl (decide (x=y))) h:=by unfold vEq;rw[BE hx hy];rfl
theorem Ew{x:PV}{y:PV}(hx:x.pl 40=true)(hy:y.pl 40=true):vNe x y h=.ok (.bl (!decide (x=y))) h:=by unfold vNe;rw[BE hx hy];rfl
@[simp]theorem N9{i j:Int}:vEq (.int i) (.int j) h=.ok (.bl (decide (i=j))) h:=by rw[wN rfl rfl];congr 2;simp
@[simp]theorem N'{i j:Str}:vEq (.str i) (.str j) h=.ok (.bl (decide (i=j))) h:=by rw[wN rfl rfl];congr 2;simp
@[simp]theorem Na{i j:Str}:vNe (.str i) (.str j) h=.ok (.bl (!decide (i=j))) h:=by rw[Ew rfl rfl];congr 3;simp
variable{ys:List PV}
theorem sH{x:PV}(hx:x.pl 39=true)(hy:ys.all (PV.pl 39)=true):sA x ys=some (decide (x∈ys)):=by
 have key:∀ys:List PV,ys.all (PV.pl 39)=true->∃ds,PV.ds ys=some ds/\D.depths ds<=39/\∀d,x.d=some d->(ds.any λe=>eqD e d)=decide (x∈ys):=by
  intro ys
  induction ys with
  |nil=>intro _;exact⟨[],rfl,P8 _,λ_ _=>by simp⟩
  |cons y ys ih=>
   intro h;simp only[RC,PF]at h;obtain⟨e,h1,h2⟩:=jG 39 y h.1;obtain⟨ds,h3,h4,h5⟩:=ih h.2;refine⟨e::ds,BC h1 h3,?_,λd hd=>?_⟩
   ·show max e.depth (D.depths ds)<=39
    omega
   ·rw[R4,h5 d hd,BD 39 y x e d h.1 hx h1 hd,Rk];simp only[Bool.or_eq_true,decide_eq_true_eq,PC];constructor
    ·rintro(h|h)
     ·exact .inl h.symm
     ·exact .inr h
    ·rintro(h|h)
     ·exact .inl h.symm
     ·exact .inr h
 obtain⟨d,h1,h2⟩:=jG 39 x hx;obtain⟨ds,h3,h4,h5⟩:=key ys hy;unfold sA;rw[h1,h3];simp only[show D.depths ds<=40 by omega,if_true,h5 d h1]
theorem BF{x:PV}(hx:x.pl 39=true)(hy:ys.all (PV.pl 39)=true):vIn x (.tup ys) h=.ok (.bl (decide (x∈ys))) h:=by
 unfold vIn zC;dsimp only;rw[sH hx hy];rfl
theorem AR{x:PV}(hx:x.pl 39=true)(hy:ys.all (PV.pl 39)=true):oJ x (.tup ys) h=.ok (.bl (!decide (x∈ys))) h:=by
 unfold oJ zC;dsimp only;rw[sH hx hy];rfl
theorem GS{x:PV}(e:h[n]?=some (.lst ys))(hx:x.pl 39=true)(hy:ys.all (PV.pl 39)=true):vIn x (.ref n) h=.ok (.bl (decide (x∈ys))) h:=by
 have e3:aL h n=some ys:=by unfold aL;rw[e]
 unfold vIn zC;simp only[e3,sH hx hy];rfl
theorem Ex{m:Nat}(e1:h[n]?=some (.lst xs))(e2:h[m]?=some (.lst ys))(hx:xs.all (PV.pl 39)=true)(hy:ys.all (PV.pl 39)=true):wK (.ref n) (.ref m) h=some (decide (xs=ys)):=by
 have e3:kK (.ref n) h=some xs:=by unfold kK aL;simp only[e1]
 have e4:kK (.ref m) h=some ys:=by unfold kK aL;simp only[e2]
 have cz:(PV.tup xs).pl 40=true:=hx;have jt:(PV.tup ys).pl 40=true:=hy;obtain⟨d,h1,h2⟩:=jG 40 _ cz;obtain⟨e,h3,h4⟩:=jG 40 _ jt;obtain⟨ds,g1,rfl⟩:=bE h1;obtain⟨es,g2,rfl⟩:=bE h3;have h5:=BD 40 _ _ _ _ cz jt h1 h3;have d8:D.depths ds+1<=40:=h2;have zj:eY ds es=decide (xs=ys):=by
  have:eY ds es=decide (PV.tup xs=PV.tup ys):=h5;rw[this,Rk];simp
 unfold wK;have n1:(PV.ref n).d=none:=rfl;rw[n1];simp only[e3,e4,g1,g2,show D.depths ds<=40 by omega,if_true,zj]
theorem BG{m:Nat}(e1:h[n]?=some (.lst xs))(e2:h[m]?=some (.lst ys))(hx:xs.all (PV.pl 39)=true)(hy:ys.all (PV.pl 39)=true):vEq (.ref n) (.ref m) h=.ok (.bl (decide (xs=ys))) h:=by unfold vEq;rw[Ex e1 e2 hx hy];rfl
section
variable{α:Type}{a b c d e f g:α}{r:List α}
theorem wO{xs:List α}{v:α}(i:Nat)(h:xs[i]?=some v):atI xs (i:Int)=some v:=bQ h
@[simp]theorem Os:atI (a::r) 0=some a:=wO 0 rfl
@[simp]theorem Ot:atI (a::b::r) 1=some b:=wO 1 rfl
@[simp]theorem Ou:atI (a::b::c::r) 2=some c:=wO 2 rfl
theorem BH{xs:List α}{i:Int}(h:xs≠[]):∃v,atI xs (i%(xs.length:Int))=some v/\v∈xs:=by
 have h0:0<xs.length:=List.length_pos_iff.mpr h;obtain⟨v,h1,h2⟩:=Jj (xs:=xs) (i:=i%(xs.length:Int)) (Int.emod_nonneg _ (by omega)) (Int.emod_lt_of_pos _ (by omega));exact⟨v,h1,PD h2⟩
end
open PySem PySem.Spec PyProof.Rows PySem.SeqAt
open PySem.AutoSeq1 (wpAny_loadPart')
open PySem.MeetsSeq PySem.MeetsSeq2 PySem.MeetsSeq3
def Mn(A:Around)(s:Shared)(v u:Value)(b:Bool):Prop:=∀(prog:Program)(w:World)(E:Value->Shared->Prop)(Q:Value->Shared->Prop),Q (.bool b) s->wpAny (model prog w) A (richCompare .Lt v u) Q E s
def Mp(A:Around)(s:Shared)(v u:Value)(d e:D):Prop:=EqAt A s v u (eqD d e)/\(eqD d e=false->∀b,ltD d e=some b->Mn A s v u b)
abbrev vA(A:Around)(s:Shared):List Value->List Value->List D->List D->Prop:=λvs us ds es=>vs.length=ds.length/\us.length=es.length/\∀(j:Nat) v u d e,vs[j]?=some v->us[j]?=some u->ds[j]?=some d->es[j]?=some e->Mp A s v u d e
theorem vA.tail{v:Value}{vs:List Value}{d e:D}{ds es:List D}(h:vA A s (v::vs) (u::us) (d::ds) (e::es)):Mp A s v u d e/\vA A s vs us ds es:=
 ⟨h.2.2 0 v u d e rfl rfl rfl rfl,by have:=h.1;simpa using this,by have:=h.2.1;simpa using this,λj v u d e h1 h2 h3 h4=>h.2.2 (j+1) v u d e (by simpa using h1) (by simpa using h2) (by simpa using h3) (by simpa using h4)⟩
theorem wQ(l b:Addr)(items bh:Array Value)(n n2:Nat)(dd ju:Option Addr)(sl jd:Array (Option Value))(ds es:List D)(c:Bool)(hc:mR ds es=some c):
  Meets (Builtin.«tuple.__lt__» ⟨[.ref l,.ref b],[]⟩)
   (λA R s=>s.heap.get? l=some { cls:=.type "tuple",dict:=dd,data:=.seq items n,slots:=sl }/\s.heap.get? b=some { cls:=.type "tuple",dict:=ju,data:=.seq bh n2,slots:=jd }/\
    vA A.in1 s items.toList bh.toList ds es/\R (.ok (.ret (.bool c))) s):=
 .of_wp λprog w A R s h=>by
  obtain⟨hp,g,d,tk,os⟩:=s;obtain⟨hl,hb,hit,h⟩:=h;have f2:=AutoSeq1.sub_tuple_tuple;have z1:items.size=ds.length:=by rw[<-hit.1];simp
  have z2:bh.size=es.length:=by rw[<-hit.2.1];simp
  wp_walk using wpAny_loadPart' hl,wpAny_loadPart' hb,wpAny_forIn_list _ (λrest b s'=>b.1=none/\s'=⟨hp,g,d,tk,os⟩/\∃(vs ws:List Value)(ij gg:List D),rest=vs.zip ws/\
   vA A.in1 ⟨hp,g,d,tk,os⟩ vs ws ij gg/\ij.length+bh.size=gg.length+items.size/\mR ij gg=some c) _
  case turn=>
   rintro⟨y,x⟩ rest b s' ⟨hb',rfl,vs,ws,ij,gg,hz,hvi,hlen,hR⟩;cases vs with
   |nil=>rw[List.zip_nil_left]at hz;cases hz
   |cons v vs=>
    cases ws with
    |nil=>rw[List.zip_nil_right]at hz;cases hz
    |cons u ws=>
     rw[List.zip_cons_cons]at hz;injection hz with hyx hrest;injection hyx with hy hx;subst hy hx;cases ij with
     |nil=>have:=hvi.1;simp at this
     |cons a ij=>
      cases gg with
      |nil=>have:=hvi.2.1;simp at this
      |cons e gg=>
       obtain⟨⟨h1,h2⟩,ht⟩:=vA.tail hvi;simp only[Qs]at hlen;simp only[mR]at hR;refine Pf (h1 prog w _ _ ?_);cases q:eqD a e with
       |true=>
        rw[q,if_pos rfl]at hR
        wp_walk
        exact⟨rfl,rfl,_,_,_,_,hrest,ht,by omega,hR⟩
       |false=>
        rw[q,if_neg Px]at hR;have yh:=h2 q c hR prog w
        wp_walk using yh
        exact⟨_,rfl,by simpa using h⟩
  case fin=>
   rintro⟨b1,b2⟩ s' ⟨hb',rfl,vs,ws,ij,gg,hz,hvi,hlen,hR⟩;simp only at hb';subst hb';have hv:c=decide (items.size<bh.size):=by
    cases ij with
    |nil=>
     cases gg with
     |nil=>
      simp only[List.length_nil]at hlen;simp only[mR]at hR;cases hR
      exact(decide_eq_false (by omega)).symm
     |cons e gg=>
      simp only[List.length_nil,Qs]at hlen;simp only[mR]at hR;cases hR
      exact(decide_eq_true (by omega)).symm
    |cons a ij=>
     cases gg with
     |nil=>
      simp only[List.length_nil,Qs]at hlen;simp only[mR]at hR;cases hR
      exact(decide_eq_false (by omega)).symm
     |cons e gg=>
      exfalso;cases vs with
      |nil=>have:=hvi.1;simp at this
      |cons v vs=>
       cases ws with
       |nil=>have:=hvi.2.1;simp at this
       |cons u ws=>rw[List.zip_cons_cons]at hz;cases hz
   rw[hv]at h
   wp_walk
   exact⟨_,rfl,by simpa[Builtin.Tuple.tupleCompareSizes] using h⟩
  case h=>
   exact⟨rfl,rfl,items.toList,bh.toList,ds,es,rfl,hit,by omega,hc⟩
theorem Oa(I:Inv X pins σ H s):∀(n:Nat)(d e:D)(A:Around)(x y:V)(v u:Value)(b:Bool),d.depth<=n->A.units+n<cLine->Rep X.K H d x->Rep X.K H e y->RelV x v->RelV y u->ltD d e=some b->Mn A s v u b:=by
 intro n
 induction n with
 |zero=>
  intro d e A x y v u b hd hu hx hy rx ry hb;cases d with
  |tup ds=>exact absurd hd (by show ¬ D.depths ds+1<=0;omega)
  |int i=>
   cases e with
   |int j=>
    cases hx;cases hy;obtain⟨t,rfl⟩:=rx;obtain⟨t',rfl⟩:=ry;simp only[ltD]at hb;cases hb
    exact λprog w E Q q=>(PyProof.Rows.lt_int q:wpAny (model prog w) A (P4 .Lt _ _) Q E s)
   |_=>simp[ltD]at hb
  |str i=>
   cases e with
   |str j=>
    cases hx;cases hy;obtain⟨t,rfl⟩:=rx;obtain⟨t',rfl⟩:=ry;simp only[ltD]at hb;cases hb
    exact λprog w E Q q=>(PyProof.Rows.lt_str q:wpAny (model prog w) A (P4 .Lt _ _) Q E s)
   |_=>simp[ltD]at hb
  |_=>cases e <;> simp[ltD]at hb
 |succ n ih=>
  intro d e A x y v u b hd hu hx hy rx ry hb
  by_cases h0:d.depth<=n
  ·exact ih d e A x y v u b h0 (by omega) hx hy rx ry hb
  ·cases d with
   |tup ds=>
    cases e with
    |tup es=>
     have jv:D.depths ds<=n:=by have:D.depths ds+1<=n+1:=hd;omega
     obtain⟨a,vs,rfl,q,r⟩:=hx;cases rx
     obtain⟨its,rv,p,_⟩:=I.tuple q;obtain⟨a',jo,rfl,q',r'⟩:=hy;cases ry
     obtain⟨its',az,p',_⟩:=I.tuple q';have hb':mR ds es=some b:=by simpa[ltD] using hb
     obtain⟨⟨cls,dd,data,sl⟩,ho,hc,m,lg⟩:=id p;obtain⟨⟨o4,ju,data2,jd⟩,gw,di,m2,hd2⟩:=id p';simp only at hc lg di hd2;subst hc lg di hd2;intro prog w E Q hq;refine richCompare_meets_room (op:=.Lt) ⟨_,ho,rfl⟩ ⟨_,gw,rfl⟩ PySem.F.slot_tuple_lt PySem.F.entry_tuple_lt (PySem.F.args_tuple_lt_2 _ _) (wQ a a' its.toArray its'.toArray m m2 dd ju sl jd ds es b hb')
      ⟨ho,gw,⟨?_,?_,?_⟩,show Value.bool b≠Value.notImplemented/\Q (.bool b) s from⟨(λx=>nomatch x),hq⟩⟩ (by omega)
     ·have l1:=r.length;have l3:=rv.length
      show its.length=ds.length
      omega
     ·have l1:=r'.length;have l3:=az.length
      show its'.length=es.length
      omega
     ·intro j v u d e h1 h2 h3 h4;obtain⟨xv,ka,ic⟩:=r.at h3;obtain⟨yv,jz,i9⟩:=r'.at h4;obtain⟨xu,i8,cu⟩:=rv.get ka;obtain⟨yu,iw,bt⟩:=az.get jz;have e1:v=xu:=by
       have:its[j]?=some v:=h1;rw[i8]at this;exact(PP this).symm
      have e2:u=yu:=by
       have:its'[j]?=some u:=h2;rw[iw]at this;exact(PP this).symm
      subst e1 e2;have uw:=D.depths_le h3;refine⟨GC I (n:=n) (by omega) ?_ ic i9 cu bt,λ_ b hb=>ih d e _ xv yv v u b (by omega) ?_ ic i9 cu bt hb⟩
      all_goals (show A.units+1+n<cLine;omega)
    |_=>simp[ltD]at hb
   |_=>exact absurd (P8 n) h0
variable{C:MC}{k:Nat}{X:Cx}
def JS(x y:PV):Option Bool:=match x.d,y.d with
 |some d,some e=>if d.depth<=40 then ltD d e else none
 |_,_=>none
def jH:PV->PV->PH->Rs PV:=λx y h=>match x,y with
 |.tup xs,.tup ys=>ofB (JS (.tup xs) (.tup ys)) h
 |x,y=>vLt x y h
theorem JT(hu:X.A.units+64<cLine)(K:Pi)(hK:X.K=K):OpR X (P4 .Lt) (λx y H Q=>∃d e b,Rep K H d x/\Rep K H e y/\d.depth<=40/\ltD d e=some b/\Q (.bl b) H):=by
 subst hK;intro pins s σ H x y v u Q I rx ry h;obtain⟨d,e,b,hx,hy,hd,hb,q⟩:=h;exact Oa I 40 d e X.A x y v u b hd (by omega) hx hy rx ry hb X.prog X.w X.xe _ ⟨.bl _,H,I,rfl,q⟩
set_option tactic.hygienic true in
theorem JU:OpS C k X (P4 .Lt) jH:=λc=>((JT c.hu64 C.K c.K).or (NP c)).imp λx y H Q h=>by
 obtain⟨φ,h,p,q,rh,rx,ry,po⟩:=h;unfold jH at po;split at po
 ·obtain⟨b,e,po⟩:=po.ofB;unfold JS at e;split at e
  ·rename_i d e' h1 h2;split at e
   ·rename_i hd;exact .inl ⟨d,e',b,rx.rep h1,ry.rep h2,hd,e,po.val rh rfl⟩
   ·cases e
  ·cases e
 ·exact .inr ⟨φ,h,p,q,rh,rx,ry,po⟩
@[simp]theorem KD{i j:Int}:jH (.int i) (.int j) h=.ok (.bl (decide (i<j))) h:=(rfl)
def ltL(f:PV->PV->Option Bool):List PV->List PV->Option Bool
 |[],[]=>some false
 |[],_::_=>some true
 |_::_,[]=>some false
 |x::xs,y::ys=>if x=y then ltL f xs ys else f x y
def ltP:Nat->PV->PV->Option Bool
 |_,.int a,.int b=>some (decide (a<b))
 |_,.str a,.str b=>some (decide (a.cps.toList<b.cps.toList))
 |n+1,.tup xs,.tup ys=>ltL (ltP n) xs ys
 |_,_,_=>none
theorem Mq:∀(n:Nat)(x y:PV)(d e:D),x.pl n=true->y.pl n=true->x.d=some d->y.d=some e->ltD d e=ltP n x y:=by
 intro n
 induction n with
 |zero=>
  intro x y d e hx hy h1 h2;cases x <;> first|(simp[PV.pl]at hx;done)|skip
  all_goals cases h1
  all_goals cases y <;> first|(simp[PV.pl]at hy;done)|skip
  all_goals cases h2
  all_goals simp[ltD,ltP]
 |succ n ih=>
  intro x y d e hx hy h1 h2;have lists:∀(xs ys:List PV)(ds es:List D),xs.all (PV.pl n)=true->ys.all (PV.pl n)=true->PV.ds xs=some ds->PV.ds ys=some es->mR ds es=ltL (ltP n) xs ys:=by
   intro xs
   induction xs with
   |nil=>
    intro ys ds es _ _ h1 h2;cases h1
    cases ys with
    |nil=>cases h2;simp[mR,ltL]
    |cons y ys=>obtain⟨d,r,_,_,rfl⟩:=cZ h2;simp[mR,ltL]
   |cons x xs ihx=>
    intro ys ds es hx hy h1 h2;obtain⟨d,r,g1,g2,rfl⟩:=cZ h1;simp only[RC,PF]at hx;cases ys with
    |nil=>cases h2;simp[mR,ltL]
    |cons y ys=>
     obtain⟨e,q,g3,g4,rfl⟩:=cZ h2;simp only[RC,PF]at hy;simp only[mR,ltL,BD n x y d e hx.1 hy.1 g1 g3,ihx ys r q hx.2 hy.2 g2 g4,ih x y d e hx.1 hy.1 g1 g3,decide_eq_true_eq]
  cases x with
  |tup xs=>
   obtain⟨ds,g1,rfl⟩:=bE h1;cases y with
   |tup ys=>
    obtain⟨es,g2,rfl⟩:=bE h2;simp only[ltD,lists xs ys ds es hx hy g1 g2,ltP]
   |non=>cases h2;simp[ltD,ltP]
   |int j=>cases h2;simp[ltD,ltP]
   |str j=>cases h2;simp[ltD,ltP]
   |_=>simp[PV.pl]at hy
  |non=>cases h1;cases y <;> first|(simp[PV.pl]at hy;done)|(obtain⟨es,g2,rfl⟩:=bE h2;simp[ltD,ltP];done)|(cases h2;simp[ltD,ltP])
  |int i=>cases h1;cases y <;> first|(simp[PV.pl]at hy;done)|(obtain⟨es,g2,rfl⟩:=bE h2;simp[ltD,ltP];done)|(cases h2;simp[ltD,ltP])
  |str i=>cases h1;cases y <;> first|(simp[PV.pl]at hy;done)|(obtain⟨es,g2,rfl⟩:=bE h2;simp[ltD,ltP];done)|(cases h2;simp[ltD,ltP])
  |_=>simp[PV.pl]at hx
theorem Ey(hx:(PV.tup xs).pl 40=true)(hy:(PV.tup ys).pl 40=true)(e:ltL (ltP 39) xs ys=some b):jH (.tup xs) (.tup ys) h=.ok (.bl b) h:=by
 obtain⟨d,h1,h2⟩:=jG 40 _ hx;obtain⟨d',h3,h4⟩:=jG 40 _ hy;have:=Mq 40 _ _ d d' hx hy h1 h3;have e':ltP 40 (.tup xs) (.tup ys)=some b:=e;unfold jH JS;simp only[h1,h3,h2,if_true,this,e'];rfl
open PySem PySem.Spec PyProof.Rows
variable{C:MC}{k:Nat}{X:Cx}
theorem D3:Cxt C k X->cL X (.builtin "sum") (λxs H Q=>∃(p:Addr)(ns:List Int),xs=[.ref p]/\SqL C.K H p (ns.map V.int)/\Q (.int ns.sum) H):=λc=>by
 intro pins s σ H xs us Q I r h;obtain⟨p,ns,rfl,hq,q⟩:=h;obtain⟨u,rfl,ru⟩:=vals1 r;cases ru
 rw[<-c.K]at hq;obtain⟨its,rv,pl,hz⟩:=I.list hq;have hi:IntsAre its ns:=intsAre_of rv;obtain⟨ys,hy⟩:=hi.allInts.items;have hl:=pl.isList;rw[hy]at hl;refine sum_intListG (I.ok.hd c.calm) hl λh' tk t' hk=>?_;have e:preSum (numAt ys) ys.size=ns.sum:=by
  have e1:=preSum_eq ys ys.size;rw[List.take_of_length_le (by simp)]at e1;rw[e1,<-nums_intItems,<-hy];have:=hi.numsOf;rw[show its.toArray.toList=its from rfl,this]
 rw[e];exact⟨.int ns.sum,H,I.kept hk,⟨_,rfl⟩,q⟩
def vB:List PV->Option (List Int)
 |[]=>some []
 |.int i::r=>(vB r).map (i::·)
 |_::_=>none
theorem BJ{φ:List Addr}{H:Hp}:∀{xs:List PV}{vs:List V}{ns:List Int},RVs C φ H xs vs->vB xs=some ns->vs=ns.map V.int
 |[],[],_,_,e=>by cases e;rfl
 |x::xs,v::vs,ns,⟨h,r⟩,e=>by
  cases x with
  |int i=>
   cases h
   simp only[vB,PB]at e;obtain⟨m,e,rfl⟩:=e;rw[BJ r e];rfl
  |_=>cases e
 |[],_::_,_,h,_=>h.elim
 |_::_,[],_,h,_=>h.elim
theorem D4(ns:List Int):vB (ns.map PV.int)=some ns:=by
 induction ns with
 |nil=>rfl
 |cons n ns ih=>simp[vB,ih]
def wR:List PV->PH->Rs PV:=λxs h=>match xs with
 |[x]=>match kK x h with
  |some ys=>match vB ys with
   |some ns=>.ok (.int ns.sum) h
   |none=>.bad
  |none=>.bad
 |_=>.bad
set_option tactic.hygienic true in
theorem Mr:kJ C k X (.builtin "sum") wR:=λc=>(D3 c).imp λvs H Q h=>by
 obtain⟨φ,h,ps,rh,rv,po⟩:=h;unfold wR at po;split at po
 ·obtain⟨v,rfl,rx⟩:=rv.one;split at po
  ·rename_i ys e;split at po
   ·rename_i ns en;obtain⟨a,vs,rfl,sa,ra⟩:=rY rh rx e;rw[BJ ra en]at sa;exact⟨a,ns,rfl,sa,po.val rh rfl⟩
   ·exact po.elim
  ·exact po.elim
 ·exact po.elim
theorem nJ(e:h[n]?=some (.lst (ns.map PV.int))):wR [.ref n] h=.ok (.int ns.sum) h:=by
 have e1:kK (.ref n) h=some (ns.map PV.int):=by unfold kK aL;simp only[e]
 unfold wR;simp only[e1,D4]
open Classical in
noncomputable def D5:PV->PV->PH->Rs PV:=λx y h=>match x,y with
 |.str z,.int n=>if z.length<=16/\-(2 ^ 63)<=n/\n<=1000 then .ok (.str (Txt.mul z n)) h else .bad
 |_,_=>.bad
theorem Mt:OpS C k X (QD .Mult) D5:=λc=>by
 intro pins s σ H x y v u Q I rx ry h;obtain⟨φ,h,p,q,rh,rp,rq,po⟩:=h;unfold D5 at po;split at po
 ·cases rp;cases rq;obtain⟨t,rfl⟩:=rx;obtain⟨t',rfl⟩:=ry;obtain⟨⟨h1,h2,h3⟩,po⟩:=po.ite;refine PySem.W.KXi.mul rfl h1 h2 (by omega) λt'' tk _ _=>⟨.str _,H,I.tok _,⟨_,rfl⟩,po.val rh rfl⟩
 ·exact po.elim
open PySem
@[simp]theorem Nb{lo:Option Int}{hi:Option Int}{z:Str}(c:z.length<=16777216):vSl (.str z) lo hi h=.ok (.str (Si z lo hi)) h:=if_pos c
@[simp]theorem Ob{lo:Option Int}{hi:Option Int}:vSl (.fl xs) lo hi h=.ok (.ref h.length) (h++[.lst (bC xs lo hi)]):=(rfl)
theorem wU{lo:Option Int}{hi:Option Int}(e:h[n]?=some (.lst xs)):vSl (.ref n) lo hi h=.ok (.ref h.length) (h++[.lst (bC xs lo hi)]):=by
 have e3:aL h n=some xs:=by unfold aL;rw[e]
 unfold vSl;simp only[e3]
@[simp]theorem JV{x:PV}:kZ x .non h=.ok (.bl (!oM x)) h:=(rfl)
theorem BK{d:Nat}{i:Int}(h0:0<=i):HT.sIx n d (some i)=min i.toNat n:=by
 show(if i<0 then(i+(n:Int)).toNat else min i.toNat n)=_
 rw[if_neg (by omega)]
section
variable{tg:Mg}{g:PH->Bool}
theorem wV{δ0:Ev}{Q:PV->PH->Prop}(I:Nat->PH->Prop):∀(xs:List PV)(k:Nat)(h:PH),I k h->
  (∀i x h,k<=i->xs[i-k]?=some x->I i h->g h=true/\∃δ1,tg x δ0=some δ1/\(tst δ1 h).W λb h'=>if b=true then(elt δ1 h').W λp jj=>∃ys,jj[n]?=some (.lst ys)/\ys.length<16777216/\I (i+1) (jj.set n (.lst (ys++[p]))) else I (i+1) h')->
  (∀h,I (k+xs.length) h->g h=true/\Q (.ref n) h)->(iS g tg tst elt δ0 n xs h).W Q
 |[],k,h,i0,_,fin=>by
  obtain⟨h1,h2⟩:=fin h i0;simp[iS,h1,h2]
 |x::xs,k,h,i0,step,fin=>by
  obtain⟨h1,δ1,h2,h3⟩:=step k x h (Pk _) (by simp) i0;have go:∀h2,I (k+1) h2->(iS g tg tst elt δ0 n xs h2).W Q:=λh2 i2=>
   wV I xs (k+1) h2 i2 (λi y h hk hy=>step i y h (by omega) (by
    have:i-k=(i-(k+1))+1:=by omega
    rw[this,Q5];exact hy)) (λh hi=>fin h (by
    have e:k+(x::xs).length=k+1+xs.length:=by simp;omega
    rw[e];exact hi))
  unfold iS;rw[if_pos h1,h2]
  show(Rs.bind (tst δ1 h) _).W Q
  rw[AO];refine Er h3 λb h' hb=>?_;cases b with
  |false=>exact go h' (by simpa using hb)
  |true=>
   show(Rs.bind (elt δ1 h') _).W Q
   rw[AO];refine Er (show(elt δ1 h').W _ from by simpa using hb) λp jj hp=>?_
   obtain⟨ys,e,hz,hi⟩:=hp;have e':cM jj n=some ys:=by unfold cM;rw[e]
   simp[e',hz];exact go _ hi
theorem vC{α:Type}{ys:List α}{emb:α->PV}(f:α->Option PV)(e:mi δ h=.ok ⟨ys.map emb,g⟩ h1)(hg:∀h,Ext h1 h->g h=true)(hz:ys.length<=16777216)(step:∀y∈ys,∃δ1,tg (emb y) (fP js δ)=some δ1/\∀h,Ext h1 h->match f y with
   |none=>tst δ1 h=.ok false h
   |some p=>tst δ1 h=.ok true h/\elt δ1 h=.ok p h):cF js mi tg tst elt δ h=.ok (.ref h1.length) (h1++[.lst (ys.filterMap f)]):=by
 have w:(cF js mi tg tst elt δ h).W λp h'=>p=.ref h1.length/\h'=h1++[.lst (ys.filterMap f)]:=by
  unfold cF;rw[e,Rs.bind_ok];refine wV (λi h'=>h'=h1++[.lst ((ys.take i).filterMap f)]) (ys.map emb) 0 _ (by simp) (λi x h' _ hx hi=>?_) (λh' hi=>?_)
  ·subst hi;have hx:(ys.map emb)[i]?=some x:=by simpa using hx
   rw[Pu]at hx;obtain⟨y,hy,rfl⟩:=PB.mp hx;have Pa:=(Pg.mp hy).1;obtain⟨δ1,ht,hs⟩:=step y (PD hy);have hs:=hs (h1++[.lst ((ys.take i).filterMap f)]) (Ext.app _ _);have htk:ys.take (i+1)=ys.take i++[y]:=by rw[Qh,hy];rfl
   refine⟨hg _ (Ext.app _ _),δ1,ht,?_⟩;cases ef:f y with
   |none=>
    rw[ef]at hs;rw[hs];simp[htk,ef]
   |some p=>
    rw[ef]at hs;rw[hs.1];simp[hs.2];refine⟨?_,by simp[htk,ef]⟩;have:=List.length_filterMap_le f (ys.take i);rw[Q9]at this;omega
  ·subst hi;simp;exact hg _ (Ext.app _ _)
 obtain⟨p,h',e,rfl,rfl⟩:=lI w;exact e
theorem zD(e:m δ h=.ok (.ref n) h1)(hn:h1[n]?=some (.lst xs)):aU m δ h=.ok ⟨xs,sE n xs⟩ h1:=by
 unfold aU;have e3:aL h1 n=some xs:=by unfold aL;rw[hn]
 rw[e,Rs.bind_ok];unfold ofSeq;simp only[e3]
theorem zE(hn:h1[n]?=some (.lst xs)):∀h,Ext h1 h->sE n xs h=true:=λh hx=>by
 have e3:aL h n=some xs:=by unfold aL;rw[hx _ _ hn]
 unfold sE;rw[e3];exact PV.beqs_self xs
theorem Ez(e:m δ h=.ok (.tup xs) h1):aU m δ h=.ok ⟨xs,λ_=>true⟩ h1:=by
 unfold aU;rw[e];rfl
theorem nK{α:Type}{ys:List α}{emb:α->PV}(f:α->Option PV)(e:m δ h=.ok (.ref n) h1)(hn:h1[n]?=some (.lst (ys.map emb)))(hz:ys.length<=16777216)(step:∀y∈ys,∃δ1,tg (emb y) (fP js δ)=some δ1/\∀h,Ext h1 h->match f y with
   |none=>tst δ1 h=.ok false h
   |some p=>tst δ1 h=.ok true h/\elt δ1 h=.ok p h):cF js (aU m) tg tst elt δ h=.ok (.ref h1.length) (h1++[.lst (ys.filterMap f)]):=
 vC f (zD e hn) (zE hn) hz step
theorem vD{α:Type}{ys:List α}{emb:α->PV}(f:α->Option PV)(e:m δ h=.ok (.tup (ys.map emb)) h1)(hz:ys.length<=16777216)(step:∀y∈ys,∃δ1,tg (emb y) (fP js δ)=some δ1/\∀h,Ext h1 h->match f y with
   |none=>tst δ1 h=.ok false h
   |some p=>tst δ1 h=.ok true h/\elt δ1 h=.ok p h):cF js (aU m) tg tst elt δ h=.ok (.ref h1.length) (h1++[.lst (ys.filterMap f)]):=
 vC f (Ez e) (λ_ _=>rfl) hz step
theorem filterMap_some{α β:Type}(f:α->β)(xs:List α):xs.filterMap (λx=>some (f x))=xs.map f:=by
 induction xs with
 |nil=>rfl
 |cons x xs ih=>simp[ih]
end
open PySem PySem.Spec PyProof.Rows
mutual
theorem EA(I:Inv X pins σ H s)(hK:X.K=C.K):∀(n:Nat){p:PV}{v:V}{u:Value},p.ky n=true->RV C φ H p v->RelV v u->HR s.heap p u
 |_,.int i,v,u,_,r,ru=>by cases r;exact ru
 |_,.str i,v,u,_,r,ru=>by cases r;exact ru
 |n+1,.tup ps,v,u,hk,r,ru=>by
  obtain⟨a,vs,rfl,q,rs⟩:=r;cases ru
  rw[<-hK]at q;obtain⟨its,rv,p,_⟩:=I.tuple q;exact⟨a,its,rfl,p,BL I hK n (P3.mp hk) rs rv⟩
 |0,.tup _,_,_,hk,_,_=>by cases hk
 |n,.non,_,_,hk,_,_=>by cases n <;> cases hk
 |n,.bl _,_,_,hk,_,_=>by cases n <;> cases hk
 |n,.ref _,_,_,hk,_,_=>by cases n <;> cases hk
 |n,.ty _,_,_,hk,_,_=>by cases n <;> cases hk
 |n,.fl _,_,_,hk,_,_=>by cases n <;> cases hk
theorem BL(I:Inv X pins σ H s)(hK:X.K=C.K):∀(n:Nat){ps:List PV}{vs:List V}{us:List Value},(∀p∈ps,p.ky n=true)->RVs C φ H ps vs->aJ vs us->HRs s.heap ps us
 |_,[],[],us,_,_,ru=>by cases ru;trivial
 |n,p::ps,v::vs,us,hk,r,ru=>by
  cases ru with
  |cons h t=>exact⟨EA I hK n (hk p Pm) r.1 h,BL I hK n (λq hq=>hk q (Pj _ hq)) r.2 t⟩
 |_,[],_::_,_,_,r,_=>r.elim
 |_,_::_,[],_,_,r,_=>r.elim
end
abbrev zF:List (PV×Addr×V)->List (PV×Addr×Value)->Prop:=Paired λp q=>p.1=q.1/\p.2.1=q.2.1/\RelV p.2.2 q.2.2
def HD(C:MC)(φ:List Addr)(H:Hp)(X:Cx)(s:Shared)(a:Addr)(kvs:List (PV×PV)):Prop:=
 ∃ks xs,RKd C φ H kvs ks/\zF ks xs/\xs.length<=Pt/\(a == Qm)=false/\s.heap.DictOfH (mZ X.prog X.w) a xs
def aT(h:PH)(n:Nat):Option (List (PV×PV)):=match h[n]? with
 |some (.dD kvs)=>some kvs
 |some (.dK [])=>some []
 |_=>none
def PV.isKt:PV->Bool
 |.tup xs=>(PV.tup xs).ky 6
 |_=>false
theorem qV(h:p.isKt=true):p.ky 6=true:=by cases p <;> first|exact h|cases h
theorem kB(h:p.isKt=true)(r:RV C φ H p v):∃b,v=.ref b:=by
 cases p <;> first|(obtain⟨b,_,e,_⟩:=r;exact⟨b,e⟩)|cases h
variable{kvs:List (PV×PV)}
set_option tactic.hygienic true in
theorem nL(I:Inv X pins σ H s)(hK:X.K=C.K)(hw:X.w=C.w)(rh:RH C φ H h)(ha:φ[n]?=some a)(e:aT h n=some kvs):HD C φ H X s a kvs/\Mut (H a)/\pZ (H a):=by
 unfold aT at e;split at e
 ·rename_i kv hk;cases e
  obtain⟨ks,hH,r⟩:=rh.at' n a _ ha hk;have hO:aZ X.prog X.w H s.heap a (dDO C.w a ks):=I.hok a _ hH;obtain⟨⟨hz,hm,xs,rx,o,es,ep,h1,h2,h3,h4,h5⟩,_⟩:=hO;refine⟨⟨ks,xs,r,rx,by rw[<-Qi rx];exact hz,hm,o,es,ep,h1,h2,h3,?_,?_,h5⟩,by rw[hH];exact QW,by rw[hH];exact QW⟩
  ·rw[h4,<-hw];rfl
  ·have all:∀{l:List (PV×PV)}{m:List (PV×Addr×V)}{z:List (PV×Addr×Value)},RKd C φ H l m->zF m z->∀x∈z,(mZ X.prog X.w).is s.heap x.1 x.2.1:=by
    intro l m z q;unfold RKd at q
    induction q generalizing z with
    |nil=>intro rz x hx;cases rz;cases hx
    |cons hq t ih=>
     intro rz x hx;cases rz with
     |cons hz' tz=>
      rcases PC.mp hx with e|hx
      ·subst e;refine⟨?_,?_⟩
       ·rw[<-hz'.1,<-hq.1];exact hq.2.1
       ·rw[<-hz'.1,<-hq.1,<-hz'.2.1];exact EA I hK 6 hq.2.1 hq.2.2.1 rfl
      ·exact ih tz x hx
   exact all r rx
 ·rename_i hk;cases e
  obtain⟨ks,hH,r⟩:=rh.at' n a _ ha hk;have:ks=[]:=by cases r;rfl
  subst this;obtain⟨z,hd,vs,rel,o,es,ep,h1,h2,h3,h4,h5,h6⟩:=uO I.hok hH;have:vs=[]:=by cases rel;rfl
  subst this;refine⟨⟨[],[],.nil,.nil,P8 _,hd,o,es,ep,h1,h2,h3,?_,(λx hx=>nomatch hx),Sa⟩,by rw[hH];exact QW,by rw[hH];exact QW⟩;cases he:es.toList with
  |nil=>rfl
  |cons y ys=>rw[he]at h5;cases h5
 ·cases e
variable{ks:List (PV×Addr×V)}
theorem HD.val{a:Addr}{xs:List (PV×Addr×Value)}(r:RKd C φ H kvs ks)(rx:zF ks xs)(k:PV):match aH kvs k,(atKey xs k).map (·.2) with
  |some p,some u=>∃v,RelV v u/\RV C φ H p v
  |none,none=>True
  |_,_=>False:=by
 unfold RKd at r
 induction r generalizing xs with
 |nil=>cases rx;trivial
 | @cons p q ps qs h t ih=>
  cases rx with
  | @cons q' x qs' xs' hx tx=>
   obtain⟨pk,pv⟩:=p
   by_cases e:pk=k
   ·have e':x.1=k:=hx.1.symm.trans (h.1.symm.trans e);have b:atKey (x::xs') k=some x.2:=by simp[atKey,QS,e']
    rw[b];unfold aH;rw[if_pos e];exact⟨_,hx.2.2,h.2.2.2⟩
   ·have e':¬ x.1=k:=λz=>e (h.1.trans (hx.1.trans z));have b:atKey (x::xs') k=atKey xs' k:=by simp[atKey,QS,e']
    rw[b];unfold aH;rw[if_neg e];exact ih tx
def cR{κ:Type}[DecidableEq κ](kvs:List (κ×PV))(k:κ)(p:PV):List (κ×PV):=if(aH kvs k).isSome then kvs.map (λkv=>if kv.1=k then(kv.1,p) else kv) else kvs++[(k,p)]
theorem HD.replace{a:Addr}{xs:List (PV×Addr×Value)}(r:RKd C φ H kvs ks)(rx:zF ks xs)(k:PV)(rp:RV C φ H p v)(ru:RelV v u):
  ∃de,RKd C φ H (kvs.map λkv=>if kv.1=k then(kv.1,p) else kv) de/\zF de (xs.map (putAt k u)):=by
 unfold RKd at r
 induction r generalizing xs with
 |nil=>cases rx;exact⟨[],.nil,.nil⟩
 | @cons pp q ps qs h t ih=>
  cases rx with
  | @cons q' x qs' xs' hx tx=>
   obtain⟨de,r1,r2⟩:=ih tx
   by_cases e:pp.1=k
   ·refine⟨(q.1,q.2.1,v)::de,.cons ?_ r1,.cons ?_ r2⟩
    ·simp only[if_pos e];exact⟨h.1,h.2.1,h.2.2.1,rp⟩
    ·unfold putAt;rw[if_pos (hx.1.symm.trans (h.1.symm.trans e))];exact⟨hx.1,hx.2.1,ru⟩
   ·refine⟨q::de,.cons ?_ r1,.cons ?_ r2⟩
    ·simp only[if_neg e];exact h
    ·unfold putAt;rw[if_neg λz=>e (h.1.trans (hx.1.trans z))];exact hx
theorem HD.put{a b:Addr}{xs:List (PV×Addr×Value)}(r:RKd C φ H kvs ks)(rx:zF ks xs){k:PV}(hk:k.ky 6=true)(rk:RV C φ H k (.ref b))(rp:RV C φ H p v)(ru:RelV v u):
  ∃de,RKd C φ H (cR kvs k p) de/\zF de (storedH xs k b u):=by
 have hv:=HD.val (a:=b) r rx k;unfold cR storedH;cases e1:aH kvs k with
 |some p0=>
  rw[e1]at hv;cases e2:atKey xs k with
  |none=>rw[e2]at hv;exact hv.elim
  |some z=>exact HD.replace (a:=b) r rx k rp ru
 |none=>
  rw[e1]at hv;cases e2:atKey xs k with
  |some z=>rw[e2]at hv;exact hv.elim
  |none=>exact⟨ks++[(k,b,v)],Paired.snoc r ⟨rfl,hk,rk,rp⟩,Paired.snoc rx ⟨rfl,rfl,ru⟩⟩
theorem HD.isSome{xs:List (PV×Addr×Value)}(r:RKd C φ H kvs ks)(rx:zF ks xs)(k:PV):(atKey xs k).isSome=(aH kvs k).isSome:=by
 have hv:=HD.val (a:=0) r rx k;cases e1:aH kvs k with
 |some p0=>
  rw[e1]at hv;cases e2:atKey xs k with
  |none=>rw[e2]at hv;exact hv.elim
  |some z=>rfl
 |none=>
  rw[e1]at hv;cases e2:atKey xs k with
  |some z=>rw[e2]at hv;exact hv.elim
  |none=>rfl
theorem sI(I:Inv X pins σ H s)(hK:X.K=C.K){b:Addr}(hk:p.isKt=true)(r:RV C φ H p (.ref b)):(mZ X.prog X.w).is s.heap p b:=⟨qV hk,EA I hK 6 (qV hk) r rfl⟩
theorem Cxt.room6{k:Nat}(c:Cxt C k X):(mZ X.prog X.w).room X.A.in1:=by
 have:=c.hu64
 show X.A.units+1+6<cLine
 omega
def eS(x y:PV)(h:PH):Option (Option PV):=match y with
 |.ref n=>if x.isKt=true then(aT h n).map λkvs=>aH kvs x else none
 |_=>none
def BM(C:MC):V->V->Hp->(List Addr->Option PV->Prop)->Prop:=λx y H R=>∃φ h p n a kvs,RH C φ H h/\RV C φ H p x/\y=.ref a/\φ[n]?=some a/\aT h n=some kvs/\p.isKt=true/\R φ (aH kvs p)
set_option tactic.hygienic true in
theorem lJ{q:PV}{x:V}{o:Option PV}{R:List Addr->Option PV->Prop}(rh:RH C φ H h)(rx:RV C φ H p x)(ry:RV C φ H q y)(e:eS p q h=some o)(r:R φ o):BM C x y H R:=by
 unfold eS at e;cases q with
 |ref n=>
  obtain⟨a,rfl,ha⟩:=ry;dsimp only at e;split at e
  ·rename_i hk;cases e1:aT h n with
   |none=>rw[e1]at e;cases e
   |some kvs=>rw[e1]at e;cases e;exact⟨φ,h,p,n,a,kvs,rh,rx,rfl,ha,e1,hk,r⟩
  ·cases e
 |_=>cases e
theorem GT{k:Nat}(c:Cxt C k X):OpR X (P4 .In) (λx y H Q=>BM C x y H λ_ o=>Q (.bl o.isSome) H):=λpins s σ H x y v u Q I rx ry h=>by
 obtain⟨φ,h,p,n,a,kvs,rh,rp,rfl,ha,ht,hk,q⟩:=h;cases ry
 obtain⟨b,rfl⟩:=kB hk rp;cases rx
 obtain⟨⟨ks,xs,r,cq,hz,hm,dd⟩,_⟩:=nL I c.K c.w rh ha ht;refine wpAny_in_heap c.room6 (sI I c.K hk rp) hm dd ?_;rw[HD.isSome r cq p];exact⟨.bl _,H,I.tok _,rfl,q⟩
theorem AS{k:Nat}(c:Cxt C k X):OpR X (P4 .NotIn) (λx y H Q=>BM C x y H λ_ o=>Q (.bl (!o.isSome)) H):=λpins s σ H x y v u Q I rx ry h=>by
 obtain⟨φ,h,p,n,a,kvs,rh,rp,rfl,ha,ht,hk,q⟩:=h;cases ry
 obtain⟨b,rfl⟩:=kB hk rp;cases rx
 obtain⟨⟨ks,xs,r,cq,hz,hm,dd⟩,_⟩:=nL I c.K c.w rh ha ht;refine wpAny_notIn_heap c.room6 (sI I c.K hk rp) hm dd ?_;rw[HD.isSome r cq p];exact⟨.bl _,H,I.tok _,rfl,q⟩
def iD:PV->PV->PH->Rs PV:=λx y h=>match eS x y h with
 |some o=>.ok (.bl o.isSome) h
 |none=>vIn x y h
def bG:PV->PV->PH->Rs PV:=λx y h=>match eS x y h with
 |some o=>.ok (.bl (!o.isSome)) h
 |none=>oJ x y h
theorem Mu{k:Nat}:OpS C k X (P4 .In) iD:=λc=>((NU c).or (GT c)).imp λx y H Q h=>by
 obtain⟨φ,h,p,q,rh,rx,ry,po⟩:=h;unfold iD at po;cases e:eS p q h with
 |none=>rw[e]at po;exact .inl ⟨φ,h,p,q,rh,rx,ry,po⟩
 |some o=>rw[e]at po;exact .inr (lJ rh rx ry e (po.val rh rfl))
theorem EB{k:Nat}:OpS C k X (P4 .NotIn) bG:=λc=>((GG c).or (AS c)).imp λx y H Q h=>by
 obtain⟨φ,h,p,q,rh,rx,ry,po⟩:=h;unfold bG at po;cases e:eS p q h with
 |none=>rw[e]at po;exact .inl ⟨φ,h,p,q,rh,rx,ry,po⟩
 |some o=>rw[e]at po;exact .inr (lJ rh rx ry e (po.val rh rfl))
theorem Oc{k:Nat}(c:Cxt C k X):IxR X (λx y H Q=>BM C y x H λφ o=>∃p,o=some p/\∀v:V,RV C φ H p v->Q v H):=by
 intro value slice pins s σ H x y v u Q I rx ry h hs;obtain⟨φ,h,p,n,a,kvs,rh,rp,rfl,ha,ht,hk,p',ep,q⟩:=h;cases rx
 obtain⟨b,rfl⟩:=kB hk rp;cases ry
 obtain⟨⟨ks,xs,r,cq,hz,hm,dd⟩,_⟩:=nL I c.K c.w rh ha ht;have hT:=dd.typeIs;have hv:=HD.val (a:=a) r cq p;rw[ep]at hv;cases e2:atKey xs p with
 |none=>rw[e2]at hv;exact hv.elim
 |some z=>
  rw[e2]at hv;obtain⟨v',ab,bo⟩:=hv;unfold subscriptTail;refine Pf ?_;rw[getitemInPython_of_ne hT.not_modules];refine Pf (wpAny_specialOf hT PySem.F.slot_dict_getitem.lookup ?_);have fin:wpAny (model X.prog X.w) X.A (subscripted slice false (.ref a) (.ref b)) (λr s₃=>wpAny (model X.prog X.w) X.A (letTemporaryGo value (.ref a) r >>= λ_=>pure r) (EP X pins σ Q) X.xe s₃) X.xe s:=by
   rw[hs];exact wpAny_operating (wpAny_getItem_heap c.room6 (sI I c.K hk rp) dd e2 (Pf (wpAny_letTemporaryGo (Ph ⟨v',H,I.tok _,ab,q v' bo⟩))))
  first
   |exact Ph (Pf fin)
   |exact Pf (Ph (Pf fin))
   |exact Pf fin
def vAt:PV->PV->PH->Rs PV:=λx y h=>match eS y x h with
 |some (some p)=>.ok p h
 |some none=>.bad
 |none=>vIx x y h
theorem Od{k:Nat}{a b:Expr}(ha:SE C k X a ma)(hb:SE C k X b mb)(hs:Bp b:=by intro _ _;rfl):SE C k X (.Subscript a b pos) (aB vAt ma mb):=λc=>
 (L6 ((ixC c.hu C.K c.K).or (Oc c)) (ha c) (hb c) hs).imp λσ H Q h=>by
  obtain⟨φ,δ,h,rh,re,p⟩:=Bv h;refine⟨φ,δ,h,rh,re,p.imp ?_⟩;rintro v H1 ⟨φ,δ,h,rh,re,p⟩;refine⟨φ,δ,h,rh,re,p.imp ?_⟩;rintro u H2 ⟨φ,h,p,q,rh,rx,ry,po⟩;unfold vAt at po;cases e:eS q p h with
  |none=>rw[e]at po;exact .inl (LK ⟨φ,h,p,q,rh,rx,ry,po⟩)
  |some o=>
   rw[e]at po;cases o with
   |none=>exact po.elim
   |some r=>exact .inr (lJ rh ry rx e ⟨r,rfl,λv' rv=>po.val rh rv⟩)
def oR(x y v:PV)(h:PH):Option PH:=match x with
 |.ref n=>match oI y,h[n]? with
  |some key,some (.dK kvs)=>if kvs.length<Pt then some (h.set n (.dK (cR kvs key v))) else none
  |some _,_=>none
  |none,_=>if y.isKt=true then(match aT h n with
   |some kvs=>if kvs.length<Pt then some (h.set n (.dD (cR kvs y v))) else none
   |none=>none) else none
 |_=>none
theorem AU{κ:Type}[DecidableEq κ]{kvs:List (κ×PV)}{ks:List (κ×V)}(r:RKv C φ H kvs ks)(a:κ):(aH kvs a).isSome=(gI ks a).isSome:=by
 have:=oK r a;cases e1:aH kvs a with
 |none=>
  cases e2:gI ks a with
  |none=>rfl
  |some v=>rw[e1,e2]at this;exact this.elim
 |some p=>
  cases e2:gI ks a with
  |none=>rw[e1,e2]at this;exact this.elim
  |some v=>rfl
set_option tactic.hygienic true in
theorem zG{κ:Type}[DecidableEq κ]{kvs:List (κ×PV)}{ks:List (κ×V)}(r:RKv C φ H kvs ks)(a:κ)(rp:RV C φ H p v):RKv C φ H (cR kvs a p) (putK ks a v):=by
 unfold cR putK;rw[rH,AU r a];split
 ·rename_i hx;clear hx;unfold RKv at r⊢
  induction r with
  |nil=>exact .nil
  | @cons p' q' ps qs h t ih=>
   refine .cons ?_ ih
   by_cases e:p'.1=a
   ·have e':q'.1=a:=h.1.symm.trans e;simp only[if_pos e,if_pos e'];exact⟨h.1,rp⟩
   ·have e':¬ q'.1=a:=λz=>e (h.1.trans z);simp only[if_neg e,if_neg e'];exact h
 ·exact Paired.snoc r ⟨rfl,rp⟩
variable{px py:PV}{xu yu:Value}
set_option tactic.hygienic true in
theorem vE{k:Nat}{h':PH}{pv:PV}{x:V}(c:Cxt C k X)(rh:RH C φ H h)(rx:RV C φ H px x)(ry:RV C φ H py y)(rv:RV C φ H pv v)(e:oR px py pv h=some h'){Q:Unit->Shared->Prop}(I:Inv X pins σ H s)(k0:RelV x xu)(cf:RelV y yu)(jq:RelV v vu)(q:∀s' H',Inv X pins σ H' s'->Kp H H'->RH C φ H' h'->Q () s'):wpAny (model X.prog X.w) X.A (setItem xu yu vu) Q X.xe s:=by
 unfold oR at e;cases px with
 |ref n=>
  obtain⟨a,rfl,ha⟩:=rx;cases k0
  dsimp only at e;split at e
  ·rename_i key kvs aj hk;split at e
   ·rename_i hl;cases e
    obtain⟨ks,hH,rk⟩:=rh.at' n a _ ha hk;have ey:y=kV key:=AL ry aj;subst ey;have fg:ks.length<Pt:=by rw[<-Qi rk];exact hl
    refine Cw c.hu I (.k hH fg) cf jq λs' I'=>q s' _ I' (Kp.dK hH) ?_;refine rh.write ha (by rw[hH];exact QW) ⟨_,aI,?_⟩;exact(zG rk key rv).mono Po (Kp.dK hH)
   ·cases e
  ·cases e
  ·split at e
   ·rename_i hk;split at e
    ·rename_i kvs ht;split at e
     ·rename_i hl;cases e
      obtain⟨b,rfl⟩:=kB hk ry;cases cf
      obtain⟨⟨ks,xs,r,cq,hz,hm,dd⟩,mu,nt⟩:=nL I c.K c.w rh ha ht;refine wpAny_setItem_heap (hsz:=hz) c.room6 (sI I c.K hk ry) dd λh' e8 hs=>?_;obtain⟨de,r1,r2⟩:=HD.put (a:=a) r cq (qV hk) ry rv jq;obtain⟨o,es,ep,hq,h2,h3,h4,_,h5⟩:=e8;have gi:de.length<=Pt:=by
       have e1:=Qi r1;have e2:(cR kvs py pv).length<=kvs.length+1:=by
        unfold cR;split
        ·rw[Pl];omega
        ·simp
       omega
      refine q _ (upd H a (dDO C.w a de)) (jY I mu hs ⟨o,hq⟩ ⟨⟨gi,hm,_,r2,o,es,ep,hq,h2,h3,?_,h5⟩,⟨o,hq⟩,?_⟩) (Kp.upd nt) ?_
      ·rw[h4,<-c.w];rfl
      ·rintro g1 g2 ⟨z1,z2,ws,z3,o',e9,e7,z4,z5⟩ keep;exact⟨z1,z2,ws,z3,o',e9,e7,keep _ z4,z5⟩
      ·exact rh.write ha nt ⟨de,aI,RKd.mono Po (Kp.upd nt) r1⟩
     ·cases e
    ·cases e
   ·cases e
 |_=>cases e
open PySem PySem.Spec PyProof.Rows
def MtG(C:MC)(k:Nat)(X:Cx)(T:String)(ty:PV->PH->Bool)(id:String)(g:PV->List PV->PH->Rs PV):Prop:=Cxt C k X->MtR X id (rM C g)/\
 ∀pins s σ H φ h p x v,Inv X pins σ H s->RH C φ H h->RV C φ H p x->RelV x v->ty p h=true->s.TypeIs v T/\∀a,v=.ref a->∃ob,s.heap.get? a=some ob/\ob.dict=none
theorem Mv{k:Nat}{o:Expr}{id:String}{g:PV->List PV->PH->Rs PV}(pa:PlainAttrs T)(slot:Slot T name id)(j5:typeOf (.builtin id)=pure (.type "method_descriptor"))(hm:MtG C k X T ty id g)(ho:SE C k X o mo)(ha:SA C k X (e::es) ms)(a8:R1 o name X.env (eval o X.env)=eval o X.env:=by rfl)(dg:((backTo af (PJ (e::es) X.env)).all (λx=>!x.1)&&(backToKw af (keywordEach [] X.env)).all (λx=>x.1.isSome)
   && decide ((e::es).length+([]:List Keyword).length+(if([]:List Keyword).isEmpty then 0 else 1)<30))=true:=by rfl)(a9:(apos.endLine == af.line)=true:=by rfl)(hs:PJ (e::es) X.env=(false,eval e X.env)::PJ es X.env:=by rfl)(bz:(backTo af (PJ es X.env)).any (·.1)=false:=by rfl):
  SE C k X (.Call (.Attribute o name apos) (e::es) [] af) (mMt ty g mo ms):=λc pins s σ H Q I ⟨φ,δ,h,rh,re,p⟩=>by
 refine wpAny_Call_method_late a8 dg a9 rfl (thn (ho c pins s σ H _ I ⟨φ,δ,h,rh,re,post.bind p⟩) ?_);rintro v s1 ⟨x,H1,I1,r1,φ1,px,h1,p1,t1,aa,ab,q1⟩;obtain⟨ht,q1⟩:=q1.ite;obtain⟨g1,g2⟩:=(hm c).2 pins s1 σ H1 φ1 h1 px x v I1 aa ab r1 ht;refine⟨T,id,pa,slot,j5,g1,g2,?_⟩;have hA:=ha c af pins s1 σ H1 _ I1 ⟨φ1,δ,h1,aa,re.mono p1 t1,postA.bind q1⟩;rw[hs]at hA⊢;refine Sb (show(false || (backTo af (PJ es X.env)).any (·.1))=false by rw[bz];rfl) (Calls.evalArgs_plain (thn hA ?_));rintro us s2 ⟨vs,H2,I2,r2,φ2,ps,h2,p2,t2,ag,bo,q2⟩;exact(hm c).1 pins s2 σ H2 x vs v us Q I2 r1 r2 ⟨φ2,h2,px,ps,ag,ab.mono p2 t2,bo,q2⟩
theorem BN{k:Nat}{o:Expr}{id:String}{g:PV->List PV->PH->Rs PV}(pa:PlainAttrs T)(slot:Slot T name id)(j5:typeOf (.builtin id)=pure (.type "method_descriptor"))(hm:MtG C k X T ty id g)(ho:SE C k X o mo)(a8:R1 o name X.env (eval o X.env)=eval o X.env:=by rfl)(a9:(apos.endLine == af.line)=true:=by rfl):SE C k X (.Call (.Attribute o name apos) [] [] af) (qN ty g mo):=λc pins s σ H Q I ⟨φ,δ,h,rh,re,p⟩=>by
 refine wpAny_Call_method0_late a8 a9 (thn (ho c pins s σ H _ I ⟨φ,δ,h,rh,re,post.bind p⟩) ?_);rintro v s1 ⟨x,H1,I1,r1,φ1,px,h1,p1,t1,aa,ab,q1⟩;obtain⟨ht,q1⟩:=q1.ite;obtain⟨g1,g2⟩:=(hm c).2 pins s1 σ H1 φ1 h1 px x v I1 aa ab r1 ht;exact⟨T,id,pa,slot,j5,g1,g2,Sb rfl (PySem.evalArgs_none ((hm c).1 pins s1 σ H1 x [] v [] Q I1 r1 .nil ⟨φ1,h1,px,[],aa,ab,trivial,q1⟩))⟩
def aV(x:PV)(h:PH):Bool:=match x with
 |.ref n=>match h[n]? with
  |some (.dK _)=>true
  |some (.dD _)=>true
  |_=>false
 |_=>false
set_option tactic.hygienic true in
theorem gL{k:Nat}(c:Cxt C k X):∀pins s σ H φ h p x v,Inv X pins σ H s->RH C φ H h->RV C φ H p x->RelV x v->aV p h=true->s.TypeIs v "dict" /\ ∀a,v=.ref a->∃ob,s.heap.get? a=some ob/\ob.dict=none:=by
 intro pins s σ H φ h p x v I rh rv r e;unfold aV at e;cases p with
 |ref n=>
  obtain⟨a,rfl,ha⟩:=rv;cases r
  dsimp only at e;split at e
  ·rename_i kvs hk;obtain⟨ks,hH,rk⟩:=rh.at' n a _ ha hk;obtain⟨z,hd,vs,rel,dd⟩:=uO I.hok hH;refine⟨dd.typeIs,λb eb=>?_⟩;cases eb
   obtain⟨ob,_,_,h1,h2,_⟩:=dd;exact⟨ob,h1,h2.2.1⟩
  ·rename_i kvs hk;have ht:aT h n=some kvs:=by unfold aT;rw[hk]
   obtain⟨⟨ks,xs,r,cq,hz,hm,dd⟩,_⟩:=nL I c.K c.w rh ha ht;refine⟨dd.typeIs,λb eb=>?_⟩;cases eb
   obtain⟨ob,_,_,h1,h2,_⟩:=dd;exact⟨ob,h1,h2.2.1⟩
  ·cases e
 |_=>cases e
def dG(h:PH)(x y:PV):Option (Option PV):=match eS y x h with
 |some o=>some o
 |none=>match x with
  |.ref n=>wL h n y
  |_=>none
def nM:PV->List PV->PH->Rs PV:=λx ps h=>match ps with
 |[y]=>match dG h x y with
  |some o=>.ok (o.getD .non) h
  |none=>.bad
 |[y,z]=>match dG h x y with
  |some o=>.ok (o.getD z) h
  |none=>.bad
 |_=>.bad
set_option tactic.hygienic true in
theorem EC{x y:PV}{o:Option PV}(e:eS x y h=some o):∃n kvs,y=.ref n/\x.isKt=true/\aT h n=some kvs/\o=aH kvs x:=by
 unfold eS at e;cases y with
 |ref n=>
  dsimp only at e;split at e
  ·rename_i hk;cases e1:aT h n with
   |none=>rw[e1]at e;cases e
   |some kvs=>rw[e1]at e;cases e;exact⟨n,kvs,rfl,hk,e1,rfl⟩
  ·cases e
 |_=>cases e
set_option tactic.hygienic true in
theorem JW{k:Nat}(c:Cxt C k X):MtR X "dict.get" (rM C nM):=λpins s σ H x xs v us Q I rx rs h=>by
 obtain⟨φ,h,p,ps,rh,rp,fh,po⟩:=h
 -- what is found
 have key:∀{y:PV}{yv:V}{yu:Value}{o:Option PV}{d:PV}{dv:V}{du:Value}{more:List Value},dG h p y=some o->RV C φ H y yv->RelV yv yu->RV C φ H d dv->RelV dv du->
   ((more=[]/\du=.none/\dv=.non)\/more=[du])->(∀z,RV C φ H (o.getD d) z->Q z H)->wpAny (model X.prog X.w) X.A (call (.builtin "dict.get") (v::yu::more)) (EP X pins σ Q) X.xe s:=by
  intro y yv yu o d dv du more e ry cf rd rdu hm q;unfold dG at e;cases e1:eS y p h with
  |some o'=>
   rw[e1]at e;cases e
   obtain⟨n,kvs,rfl,hk,ht,rfl⟩:=EC e1;obtain⟨a,rfl,ha⟩:=rp;cases rx
   obtain⟨b,rfl⟩:=kB hk ry;cases cf
   obtain⟨⟨ks,xs,r,cq,hz,qj,dd⟩,_⟩:=nL I c.K c.w rh ha ht;have hv:=HD.val (a:=a) r cq y;have fin:EP X pins σ Q (((atKey xs y).map (·.2)).getD du) { s with toks:=s.toks+(mZ X.prog X.w).draws y }:=by
    cases e2:aH kvs y with
    |some p2=>
     rw[e2]at hv q;cases e3:atKey xs y with
     |none=>rw[e3]at hv;exact hv.elim
     |some z=>
      rw[e3]at hv;obtain⟨v',ab,bo⟩:=hv;exact⟨v',H,I.tok _,ab,q v' bo⟩
    |none=>
     rw[e2]at hv q;cases e3:atKey xs y with
     |some z=>rw[e3]at hv;exact hv.elim
     |none=>exact⟨dv,H,I.tok _,rdu,q dv rd⟩
   rcases hm with⟨rfl,rfl,_⟩|rfl
   ·exact Rb Qp dd.typeIs QR (R5 _ _) (meetsH_dict_get (mZ X.prog X.w) a b qj) ⟨c.room6,y,xs,sI I c.K hk ry,dd,fin⟩
   ·exact Rb Qp dd.typeIs QR (PySem.F.args_dict_get_3 _ _ _) (meetsH_dict_get_default (mZ X.prog X.w) a b qj du) ⟨c.room6,y,xs,sI I c.K hk ry,dd,fin⟩
  |none=>
   rw[e1]at e;cases p with
   |ref n=>
    obtain⟨a,rfl,ha⟩:=rp;cases rx
    dsimp only at e;obtain⟨o',g,is,val⟩:=kY rh ha ry e;have fin:∀w' s',Inv X pins σ H s'->RelV (o'.getD dv) w'->EP X pins σ Q w' s':=λw' s' I' r'=>by
     refine⟨o'.getD dv,H,I',r',q _ ?_⟩;cases o with
     |some p2=>obtain⟨w2,rfl,yt⟩:=val p2 rfl;exact yt
     |none=>
      cases o' with
      |none=>exact rd
      |some z=>cases is
    rcases hm with⟨rfl,rfl,rfl⟩|rfl
    ·exact Jb c.hu I g cf fin
    ·exact Jc c.hu I g cf rdu fin
   |_=>cases e
 unfold nM at po;split at po
 ·rename_i y;split at po
  ·rename_i o e;obtain⟨yv,rfl,ry⟩:=fh.one;obtain⟨yu,rfl,cf⟩:=vals1 rs;exact key (d:=.non) (dv:=.non) (du:=.none) e ry cf rfl rfl (.inl ⟨rfl,rfl,rfl⟩) λz rz=>po.val rh rz
  ·exact po.elim
 ·rename_i y z;split at po
  ·rename_i o e;obtain⟨yv,zv,rfl,ry,rz⟩:=fh.two;obtain⟨yu,zu,rfl,cf,lq⟩:=vals2 rs;exact key e ry cf rz lq (.inr rfl) λz rz=>po.val rh rz
  ·exact po.elim
 ·exact po.elim
theorem Mw{k:Nat}:MtG C k X "dict" aV "dict.get" nM:=λc=>⟨JW c,gL c⟩
def D6(x:List Key):List (List Key)->List (List Key)
 |[]=>[x]
 |y::ys=>if aN y x=true then y::D6 x ys else x::y::ys
def oS:List (List Key)->List (List Key)
 |[]=>[]
 |x::xs=>D6 x (oS xs)
theorem oT(x:List Key):∀ys,(D6 x ys).Perm (x::ys)
 |[]=>.refl _
 |y::ys=>by
  unfold D6;split
  ·exact((oT x ys).cons y).trans (.swap x y ys)
  ·exact .refl _
theorem eL:∀xs,(oS xs).Perm xs
 |[]=>.refl _
 |x::xs=>(oT x _).trans ((eL xs).cons x)
set_option tactic.hygienic true in
theorem qE{S:List Bool}{x:List Key}(hx:shape x=S):∀{ys:List (List Key)},(∀y∈ys,shape y=S)->ys.Pairwise (λa b=>aN b a=false)->(D6 x ys).Pairwise (λa b=>aN b a=false)
 |[],_,_=>R7 _ _
 |y::ys,hs,hp=>by
  have hy:=hs y Pm;have dj:=λz hz=>hs z (Pj _ hz);rw[P5]at hp;unfold D6;split
  ·rename_i h;rw[P5];refine⟨λz hz=>?_,qE hx dj hp.2⟩;rcases PC.mp ((oT x ys).mem_iff.mp hz) with rfl|hz
   ·exact qT h
   ·exact hp.1 z hz
  ·rename_i h;have h':aN y x=false:=by simpa using h
   rw[P5];refine⟨λz hz=>?_,P5.mpr hp⟩;rcases PC.mp hz with rfl|hz
   ·exact h'
   ·exact mW (hx.trans hy.symm) (hy.trans (dj z hz).symm) h' (hp.1 z hz)
theorem kL{S:List Bool}:∀{xs:List (List Key)},(∀y∈xs,shape y=S)->(oS xs).Pairwise (λa b=>aN b a=false)
 |[],_=>.nil
 |x::xs,hs=>qE (hs x Pm) (λy hy=>hs y (Pj _ ((eL xs).mem_iff.mp hy))) (kL λy hy=>hs y (Pj _ hy))
variable{S:List Bool}
theorem AV{xs ys:List (List Key)}(hs:∀y∈xs,shape y=S)(hp:ys.Perm xs)(h:ys.Pairwise (λa b=>aN b a=false)):ys=oS xs:=by
 refine RU (le:=λa b=>aN b a=false) (λa b ha hb h1 h2=>?_) h (kL hs) (hp.trans (eL xs).symm);exact jB ((hs a (hp.mem_iff.mp ha)).trans (hs b ((eL xs).mem_iff.mp hb)).symm) h2 h1
def kP:Key->PV
 |.inl i=>.int i
 |.inr x=>.str x
theorem GU{x:PV}{a:Key}(h:oI x=some a):x=kP a:=by
 cases x <;> first|(cases h;rfl)|cases h
@[simp]theorem Nc(a:Key):oI (kP a)=some a:=by cases a <;> rfl
def qF:List PV->Option (List Key)
 |[]=>some []
 |x::xs=>match oI x,qF xs with
  |some a,some r=>some (a::r)
  |_,_=>none
theorem zH:∀{xs:List PV}{ks:List Key},qF xs=some ks->xs=ks.map kP
 |[],_,h=>by cases h;rfl
 |x::xs,ks,h=>by
  unfold qF at h;cases e1:oI x with
  |none=>rw[e1]at h;cases h
  |some a=>
   cases e2:qF xs with
   |none=>rw[e1,e2]at h;cases h
   |some r=>
    rw[e1,e2]at h;cases h
    rw[GU e1,zH e2];rfl
@[simp]theorem ED:∀ks:List Key,qF (ks.map kP)=some ks
 |[]=>rfl
 |a::ks=>by simp[qF,ED ks]
def tP(ks:List Key):PV:=.tup (ks.map kP)
def sJ:List PV->Option (List (List Key))
 |[]=>some []
 |.tup xs::r=>match qF xs,sJ r with
  |some a,some b=>some (a::b)
  |_,_=>none
 |_::_=>none
theorem zI:∀{xs:List PV}{ks:List (List Key)},sJ xs=some ks->xs=ks.map tP
 |[],_,h=>by cases h;rfl
 |x::xs,ks,h=>by
  cases x with
  |tup ys=>
   unfold sJ at h;cases e1:qF ys with
   |none=>rw[e1]at h;cases h
   |some a=>
    cases e2:sJ xs with
    |none=>rw[e1,e2]at h;cases h
    |some r=>
     rw[e1,e2]at h;cases h
     rw[zH e1,zI e2];rfl
  |_=>cases h
@[simp]theorem zJ:∀ks:List (List Key),sJ (ks.map tP)=some ks
 |[]=>rfl
 |a::ks=>by simp[sJ,tP,zJ ks]
def qO(ae:List (List Key)):Bool:=match ae with
 |[]=>true
 |a::r=>(!a.isEmpty)&&r.all λx=>shape x == shape a
theorem AW(h:qO ae=true):∃b sh,∀ks∈ae,shape ks=b::sh:=by
 cases ae with
 |nil=>exact⟨true,[],λ_ h=>nomatch h⟩
 |cons a r=>
  unfold qO at h;rw[PF]at h;cases a with
  |nil=>cases h.1
  |cons z zs=>
   refine⟨dO z,shape zs,λks hk=>?_⟩;rcases PC.mp hk with rfl|hk
   ·rfl
   ·have:=P3.mp h.2 ks hk;exact eq_of_beq this
section
variable{k:Nat}
theorem Mx{a:Key}:RV C φ H (kP a) v↔Rep C.K H (kD a) v:=by cases a <;> exact Iff.rfl
theorem wW{φ:List Addr}{H:Hp}:∀{ks:List Key}{vs:List V},RVs C φ H (ks.map kP) vs↔eQ C.K H (ks.map kD) vs
 |[],[]=>Iff.rfl
 |[],_::_=>Iff.rfl
 |_::_,[]=>Iff.rfl
 |_::_,_::_=>and_congr Mx wW
theorem My{ks:List Key}:RV C φ H (tP ks) v↔Rep C.K H (tD ks) v:=by
 constructor
 ·rintro⟨a,vs,e,s,r⟩;exact⟨a,vs,e,s,wW.mp r⟩
 ·rintro⟨a,vs,e,s,r⟩;exact⟨a,vs,e,s,wW.mpr r⟩
theorem BO{φ:List Addr}{H:Hp}:∀{ae:List (List Key)}{vs:List V},RVs C φ H (ae.map tP) vs↔eQ C.K H (ae.map tD) vs
 |[],[]=>Iff.rfl
 |[],_::_=>Iff.rfl
 |_::_,[]=>Iff.rfl
 |_::_,_::_=>and_congr My BO
set_option tactic.hygienic true in
theorem GV{a b:Str}:aN [.inr a] [.inr b]=decide (a.cps.toList<b.cps.toList):=by
 unfold aN;split
 ·rename_i e;cases e
  simp[aN,List.lt_irrefl]
 ·rfl
theorem qG:∀{r:List Str}{p:Str},risingS p r=true->((p::r).map λx=>[(Ru x:Key)]).Pairwise (λa b=>aN b a=false)
 |[],p,_=>R7 _ _
 |x::r,p,h=>by
  have h0:aN [.inr x] [.inr p]=false/\risingS x r=true:=by
   unfold risingS at h;rw[PF,ltCps_eq]at h;rw[GV];exact⟨by simpa using h.1,h.2⟩
  have ih:=qG h0.2;rw[Pv,P5];refine⟨λz hz=>?_,ih⟩;obtain⟨y,hy,rfl⟩:=Pw.mp hz;rcases PC.mp hy with rfl|hy
  ·exact h0.1
  ·rw[Pv,P5]at ih;exact mW (a:=[.inr p]) (b:=[.inr x]) (c:=[.inr y]) rfl rfl h0.1 (ih.1 _ (Pw.mpr ⟨y,hy,rfl⟩))
theorem wX{φ:List Addr}{H:Hp}:∀{ss:List Str}{vs:List V},RVs C φ H (ss.map PV.str) vs↔vs=ss.map V.str
 |[],[]=>by simp[RVs]
 |[],_::_=>by simp[RVs]
 |_::_,[]=>by simp[RVs]
 |x::ss,v::vs=>by
  simp only[Pv,RVs,List.cons.injEq];exact and_congr Iff.rfl wX
end
open PySem
@[simp]theorem Mz{x:PV}:eS x (.tup xs) h=none:=(rfl)
@[simp]theorem MA{i:Int}{y:PV}:eS (.int i) y h=none:=by cases y <;> rfl
@[simp]theorem MB{i:Str}{y:PV}:eS (.str i) y h=none:=by cases y <;> rfl
theorem EE{x:PV}(e:h[n]?=some (.lst xs)):eS x (.ref n) h=none:=by
 unfold eS aT;simp[e]
@[simp]theorem Nd{x:PV}{i:Int}:vAt x (.int i) h=vIx x (.int i) h:=by unfold vAt;simp
@[simp]theorem Nf{x:PV}{i:Str}:vAt x (.str i) h=vIx x (.str i) h:=by unfold vAt;simp
@[simp]theorem gM{x:PV}:iD x (.tup ys) h=vIn x (.tup ys) h:=by unfold iD;simp
@[simp]theorem bH{x:PV}:bG x (.tup ys) h=oJ x (.tup ys) h:=by unfold bG;simp
theorem zK{x:PV}(e:h[n]?=some (.lst xs)):iD x (.ref n) h=vIn x (.ref n) h:=by unfold iD;rw[EE e]
theorem zL{kvs:List (Key×PV)}(e:h[n]?=some (.dK kvs)):aV (.ref n) h=true:=by unfold aV;simp[e]
variable{z:PV}
theorem GW{kvs:List (Key×PV)}(e:h[n]?=some (.dK kvs)):nM (.ref n) [.str x,z] h=.ok ((aH kvs (.inr x)).getD z) h:=by
 simp[nM,dG,wL,e,oI]
theorem BP{kvs:List (Key×PV)}(e:h[n]?=some (.dK kvs))(c:kvs.length<16777216):oR (.ref n) (.str x) z h=some (h.set n (.dK (cR kvs (.inr x) z))):=by
 simp[oR,e,oI,c]
open PySem PySem.Spec PyProof.Rows
def iE:PV->List PV->PH->Rs PV:=λx ps h=>match x,ps with
 |.ref n,[y,z]=>match oI y with
  |some key=>match h[n]? with
   |some (.dK kvs)=>match aH kvs key with
    |some p=>.ok p h
    |none=>if kvs.length<Pt then .ok z (h.set n (.dK (cR kvs key z))) else .bad
   |_=>.bad
  |none=>if y.isKt=true then(match aT h n with
   |some kvs=>match aH kvs y with
    |some p=>.ok p h
    |none=>if kvs.length<Pt then .ok z (h.set n (.dD (cR kvs y z))) else .bad
   |none=>.bad) else .bad
 |_,_=>.bad
theorem EF{κ:Type}[DecidableEq κ](kvs:List (κ×PV))(a:κ)(p:PV):(cR kvs a p).length<=kvs.length+1:=by
 unfold cR;split
 ·rw[Pl];omega
 ·simp
set_option tactic.hygienic true in
theorem uB{k:Nat}(c:Cxt C k X):MtR X "dict.setdefault" (rM C iE):=λpins s σ H x xs v us Q I rx rs h=>by
 obtain⟨φ,h,p,ps,rh,rp,fh,po⟩:=h;unfold iE at po;split at po
 ·rename_i n y z;obtain⟨a,rfl,ha⟩:=rp;cases rx
  obtain⟨yv,zv,rfl,ry,rz⟩:=fh.two;obtain⟨yu,zu,rfl,cf,lq⟩:=vals2 rs;split at po
  ·rename_i key aj;split at po
   ·rename_i kvs hk;obtain⟨ks,hH,rk⟩:=rh.at' n a _ ha hk;have ey:=AL ry aj;subst ey;obtain⟨hz,hd,vs,rel,dd⟩:=uO I.hok hH;have z9:vs.length<=Pt:=by rw[<-rel.length];exact hz
    have lv:=oK rk key;have rv:=rel.val key;refine Rb Se dd.typeIs PySem.F.entry_dict_setdefault (PySem.F.args_dict_setdefault_3 _ _ _) (iB (aP X.prog X.w) a hd (mN cf) zu) ⟨vs,dd,z9,λv e=>?_,λe h' e8 hs=>?_⟩
    ·rw[e]at rv;cases e1:gI ks key with
     |none=>rw[e1]at rv;exact rv.elim
     |some v1=>
      rw[e1]at rv lv;cases e2:aH kvs key with
      |none=>rw[e2]at lv;exact lv.elim
      |some p1=>
       rw[e2]at lv po;exact⟨v1,H,I.tok _,rv,po.val rh lv⟩
    ·rw[e]at rv;cases e1:gI ks key with
     |some v1=>rw[e1]at rv;exact rv.elim
     |none=>
      rw[e1]at lv;cases e2:aH kvs key with
      |some p1=>rw[e2]at lv;exact lv.elim
      |none=>
       rw[e2]at po;obtain⟨hl,po⟩:=po.ite;have fg:(putK ks key zv).length<=Pt:=by
        have:=iY ks key zv;have e3:=Qi rk;omega
       have he:∃q,h'.get? a=some q:=let ⟨q,_,_,hq,_⟩:=e8;⟨q,hq⟩;refine⟨zv,upd H a (.dK (putK ks key zv)),jY I (by rw[hH];exact QW) hs he (DU fg hd (rel.put key lq) e8),lq,?_⟩;have kp:Kp H (upd H a (.dK (putK ks key zv))):=Kp.dK hH;exact po φ zv _ Po kp (rh.write ha (by rw[hH];exact QW) ⟨_,aI,(zG rk key rz).mono Po kp⟩) (rz.mono Po kp)
   ·exact po.elim
  ·obtain⟨hk,po⟩:=po.ite;split at po
   ·rename_i kvs ht;obtain⟨b,rfl⟩:=kB hk ry;cases cf
    obtain⟨⟨ks,xs,r,cq,hz,hm,dd⟩,mu,nt⟩:=nL I c.K c.w rh ha ht;have hv:=HD.val (a:=a) r cq y;refine Rb Se dd.typeIs PySem.F.entry_dict_setdefault (PySem.F.args_dict_setdefault_3 _ _ _) (iV (mZ X.prog X.w) a b hm zu) ⟨c.room6,y,xs,sI I c.K hk ry,dd,hz,λp e=>?_,λe h' e8 hs=>?_⟩
    ·rw[e]at hv;cases e2:aH kvs y with
     |none=>rw[e2]at hv;exact hv.elim
     |some p1=>
      rw[e2]at hv po;obtain⟨v',ab,bo⟩:=hv;exact⟨v',H,I.tok _,ab,po.val rh bo⟩
    ·rw[e]at hv;cases e2:aH kvs y with
     |some p1=>rw[e2]at hv;exact hv.elim
     |none=>
      rw[e2]at po;obtain⟨hl,po⟩:=po.ite;obtain⟨de,r1,r2⟩:=HD.put (a:=a) r cq (qV hk) ry rz lq;obtain⟨o,es,ep,hq,h2,h3,h4,_,h5⟩:=e8;have gi:de.length<=Pt:=by
       have e1:=Qi r1;have e3:=EF kvs y z;omega
      refine⟨zv,upd H a (dDO C.w a de),jY I mu hs ⟨o,hq⟩ ⟨⟨gi,hm,_,r2,o,es,ep,hq,h2,h3,?_,h5⟩,⟨o,hq⟩,?_⟩,lq,?_⟩
      ·rw[h4,<-c.w];rfl
      ·rintro g1 g2 ⟨z1,z2,ws,z3,o',e9,e7,z4,z5⟩ keep;exact⟨z1,z2,ws,z3,o',e9,e7,keep _ z4,z5⟩
      ·exact po φ zv _ Po (Kp.upd nt) (rh.write ha nt ⟨de,aI,RKd.mono Po (Kp.upd nt) r1⟩) (rz.mono Po (Kp.upd nt))
   ·exact po.elim
 ·exact po.elim
theorem wY{k:Nat}:MtG C k X "dict" aV "dict.setdefault" iE:=λc=>⟨uB c,gL c⟩
def iF(h:PH)(d:Nat):Option (List PV):=match h[d]? with
 |some (.dK kvs)=>some (kvs.map (·.2))
 |some (.dD kvs)=>some (kvs.map (·.2))
 |_=>none
theorem sL{K:Type}[DecidableEq K]{knd:KeyKind prog w K}{es:List QX}{kvs:List (K×Value)}(h:Pairs knd es kvs):es.map (·.val)=kvs.map (·.2):=by
 apply Rt;intro i;rw[Pu,Pu];have hl:=h.length
 by_cases hi:i<es.length
 ·have e1:es[i]?=some es[i]:=by simp[hi]
  have au:i<kvs.length:=by omega
  have e2:kvs[i]?=some (kvs[i].1,kvs[i].2):=by simp[au]
  rw[e1,e2];exact congrArg some (h.get? e1 e2).2
 ·rw[RI (by omega),RI (by omega)];rfl
set_option tactic.hygienic true in
theorem zM{k:Nat}{d:Nat}{b:Addr}(c:Cxt C k X)(I:Inv X pins σ H s)(rh:RH C φ H h)(hb:φ[d]?=some b)(e:iF h d=some xs):
  s.TypeIs (.ref b) "dict" /\ (b == Qm)=false/\xs.length<=Pt/\∃oc es ep,s.heap.get? b=some oc/\oc.data=.dict es ep/\∃ws,RVs C φ H xs ws/\aJ ws (es.toList.map (·.val)):=by
 unfold iF at e;split at e
 ·rename_i kvs hk;cases e
  obtain⟨ks,hH,rk⟩:=rh.at' d b _ hb hk;obtain⟨z,hd,vs,rel,dd⟩:=uO I.hok hH;refine⟨dd.typeIs,hd,by rw[Pl,Qi rk];exact z,?_⟩;obtain⟨oc,es,ep,g1,g2,g3,g4,g5,g6⟩:=dd;refine⟨oc,es,ep,g1,g3,ks.map (·.2),?_,?_⟩
  ·unfold RKv at rk;clear hk hH rel z
   induction rk with
   |nil=>trivial
   |cons q t ih=>exact⟨q.2,ih⟩
  ·rw[sL g5];clear hk hH g4 g5 g6 z;unfold KV at rel;clear rk
   induction rel with
   |nil=>exact .nil
   |cons q t ih=>exact .cons q.2 ih
 ·rename_i kvs hk;cases e
  have ht:aT h d=some kvs:=by unfold aT;rw[hk]
  obtain⟨⟨ks,ys,r,cq,hz,hm,dd⟩,_⟩:=nL I c.K c.w rh hb ht;have hlen:kvs.length=ys.length:=(Qi r).trans (Qi cq);refine⟨dd.typeIs,hm,by rw[Pl,hlen];exact hz,?_⟩;obtain⟨oc,es,ep,g1,g2,g3,g4,g5,g6⟩:=dd;refine⟨oc,es,ep,g1,g3,ks.map (·.2.2),?_,?_⟩
  ·unfold RKd at r;clear hk ht cq hlen
   induction r with
   |nil=>trivial
   |cons q t ih=>exact⟨q.2.2.2,ih⟩
  ·rw[g4,Qq];clear hk ht r hlen hz g4 g5 g6
   induction cq with
   |nil=>exact .nil
   |cons q t ih=>exact .cons q.2.2 ih
 ·cases e
def vF:PV->List PV->PH->Rs PV:=λx ps h=>match x,ps with
 |.ref n,[]=>match iF h n with
  |some _=>.ok (.ref h.length) (h++[.vw 1 n])
  |none=>.bad
 |_,_=>.bad
set_option tactic.hygienic true in
theorem m_values{k:Nat}:MtG C k X "dict" aV "dict.values" vF:=λc=>⟨λpins s σ H x xs v us Q I rx rs h=>by
 obtain⟨φ,h,p,ps,rh,rp,fh,po⟩:=h;unfold vF at po;split at po
 ·rename_i n;split at po
  ·rename_i ys ey;obtain⟨a,rfl,ha⟩:=rp;have:xs=[]:=by cases xs <;> first|rfl|exact fh.elim
   subst this;cases rx
   cases rs
   obtain⟨hT,hm,_⟩:=zM c I rh ha ey;refine Rb PySem.F.slot_dict_values hT PySem.F.entry_dict_values (PySem.F.args_dict_values_1 _) (wH a hm) ⟨hT,?_⟩;have fr:H s.heap.objs.size=none:=I.fresh;refine⟨.ref s.heap.objs.size,_,I.laid (t':=s.toks) (o:=Bu 1 s.heap.objs.size a) (λb u e=>Pn _ e) (Pk _) ?_,rfl,?_⟩
   ·exact⟨⟨_,Pr _ rfl,rfl,rfl⟩,⟨_,Pr _ rfl⟩,λh1 h2 ⟨o,e,p⟩ k=>⟨o,k o e,p⟩⟩
   ·exact po (φ++[s.heap.objs.size]) (.ref _) _ (Qc _ _) (Kp.new fr) (rh.new fr ⟨a,dQ (Qc _ _) ha,aI⟩) ⟨_,rfl,by rw[<-rh.len];simp⟩
  ·exact po.elim
 ·exact po.elim,gL c⟩
def sM(h:PH)(n:Nat):Option (List PV):=match h[n]? with
 |some (.vw 1 d)=>iF h d
 |_=>none
variable{acc:Array Value}
theorem EG{es:Array QX}(h:ItemsOf (λi v=>∃e,es[i]?=some e/\v=e.val) acc es.size):acc.toList=es.toList.map (·.val):=by
 apply Rt;intro i;rw[Pu,RJ,RJ]
 by_cases hi:i<acc.size
 ·have e1:acc[i]?=some acc[i]:=by simp[hi]
  obtain⟨e,h1,h2⟩:=h.2 i _ e1;rw[e1,h1,h2];rfl
 ·have au:¬ i<es.size:=by rw[<-h.1];exact hi
  rw[QA (by omega),QA (by omega)];rfl
theorem qW(e:h[n]?=some (.dK [])):aT h n=some []:=by simp[aT,e]
theorem nN(e:h[n]?=some (.dD kvs)):aT h n=some kvs:=by simp[aT,e]
open PySem PySem.Spec PyProof.Rows PySem.SeqAt PySem.W
def fk:PV->Nat
 |.tup (.int _::_)=>0
 |.tup (.str _::_)=>1
 |.tup (.tup _::_)=>2
 |_=>3
def vG:List PV->Option (List Str)
 |[]=>some []
 |.str x::r=>(vG r).map (x::·)
 |_=>none
theorem zN:∀ss:List Str,vG (ss.map PV.str)=some ss
 |[]=>rfl
 |x::r=>by
  show(vG (r.map PV.str)).map (x::·)=_
  rw[zN r];rfl
theorem zO:∀{xs:List PV}{ss:List Str},vG xs=some ss->xs=ss.map PV.str
 |[],ss,h=>by cases h;rfl
 |x::r,ss,h=>by
  cases x with
  |str z=>
   have h':(vG r).map (z::·)=some ss:=h;obtain⟨t,ht,rfl⟩:=PB.mp h';rw[zO ht];rfl
  |_=>cases h
def unZ:List Key->Str
 |[.inr x]=>x
 |_=>""
def zP(ss:List Str):List Str:=(oS (ss.map λx=>[(Ru x:Key)])).map unZ
theorem BQ(ss:List Str):(ss.map λx=>[(Ru x:Key)]).map unZ=ss:=by
 rw[Qq];exact(QI λ_ _=>rfl).trans (List.map_id ss)
theorem AX(ss:List Str):(zP ss).Perm ss:=by
 have:=(eL (ss.map λx=>[(Ru x:Key)])).map unZ;rw[BQ]at this;exact this
def oU:List PV->PH->Rs PV:=λxs h=>match xs with
 |[.ref n]=>match aL h n with
  |some ys=>match vG ys with
   |some ss=>if ss.length<64 then .ok (.ref h.length) (h++[.lst ((zP ss).map PV.str)]) else .bad
   |none=>.bad
  |none=>.bad
 |_=>.bad
set_option tactic.hygienic true in
theorem GX{k:Nat}:kJ C k X (.builtin "sorted") oU:=λc=>cL.imp (by have:=oE (X:=X);rw[c.K]at this;exact this) λvs H Q h=>by
 obtain⟨φ,h,ps,rh,rv,po⟩:=h;unfold oU at po;split at po
 ·rename_i n;split at po
  ·rename_i ys e;split at po
   ·rename_i ss es;obtain⟨hc,po⟩:=po.ite;obtain⟨v,rfl,rx⟩:=rv.one;obtain⟨a,rfl,ha⟩:=rx;obtain⟨a2,vs,aq,sa,ra⟩:=bF rh e;rw[ha]at aq;cases aq;have ey:=zO es;subst ey;have ev:=wX.mp ra;subst ev;refine⟨a,ss,rfl,sa,hc,λl ib hl hp hs=>?_⟩;have e1:(ib.map λx=>[(Ru x:Key)])=oS (ss.map λx=>[(Ru x:Key)]):=by
     refine AV (S:=[false]) (λy hy=>?_) (hp.map _) ?_
     ·obtain⟨z,_,rfl⟩:=Pw.mp hy;rfl
     ·cases ib with
      |nil=>exact .nil
      |cons x r=>exact qG hs
    have e2:zP ss=ib:=by
     unfold zP;rw[<-e1,BQ]
    rw[e2]at po;exact po.lnew rh (wX.mpr rfl) hl
   ·exact po.elim
  ·exact po.elim
 ·exact po.elim
variable{ss:List Str}
theorem zQ(e:h[n]?=some (.lst (ss.map PV.str)))(hl:ss.length<64):∃zs:List Str,zs.Perm ss/\oU [.ref n] h=.ok (.ref h.length) (h++[.lst (zs.map PV.str)]):=by
 refine⟨zP ss,AX ss,?_⟩;have e1:aL h n=some (ss.map PV.str):=by simp[aL,e]
 simp only[oU,e1,zN];rw[if_pos hl]
def twF:PV->Str
 |.tup (.str x::_)=>x
 |_=>⟨#[]⟩
def ltF(x y:PV):Bool:=decide ((twF x).cps.toList<(twF y).cps.toList)
open PySem PySem.Spec PyProof.Rows
abbrev KP:=List Key×PV
def qH(x:KP):List KP->List KP
 |[]=>[x]
 |y::ys=>if aN y.1 x.1=true then y::qH x ys else x::y::ys
def fG:List KP->List KP
 |[]=>[]
 |x::xs=>qH x (fG xs)
theorem lK(x:KP):∀ys,(qH x ys).Perm (x::ys)
 |[]=>.refl _
 |y::ys=>by
  unfold qH;split
  ·exact((lK x ys).cons y).trans (.swap x y ys)
  ·exact .refl _
theorem fR:∀xs,(fG xs).Perm xs
 |[]=>.refl _
 |x::xs=>(lK x _).trans ((fR xs).cons x)
set_option tactic.hygienic true in
theorem nO{S:List Bool}{x:KP}(hx:shape x.1=S):∀{ys:List KP},(∀y∈ys,shape y.1=S)->ys.Pairwise (λa b=>aN b.1 a.1=false)->(qH x ys).Pairwise (λa b=>aN b.1 a.1=false)
 |[],_,_=>R7 _ _
 |y::ys,hs,hp=>by
  have hy:=hs y Pm;have dj:=λz hz=>hs z (Pj _ hz);rw[P5]at hp;unfold qH;split
  ·rename_i h;rw[P5];refine⟨λz hz=>?_,nO hx dj hp.2⟩;rcases PC.mp ((lK x ys).mem_iff.mp hz) with rfl|hz
   ·exact qT h
   ·exact hp.1 z hz
  ·rename_i h;have h':aN y.1 x.1=false:=by simpa using h
   rw[P5];refine⟨λz hz=>?_,P5.mpr hp⟩;rcases PC.mp hz with rfl|hz
   ·exact h'
   ·exact mW (hx.trans hy.symm) (hy.trans (dj z hz).symm) h' (hp.1 z hz)
theorem fZ{S:List Bool}:∀{xs:List KP},(∀y∈xs,shape y.1=S)->(fG xs).Pairwise (λa b=>aN b.1 a.1=false)
 |[],_=>.nil
 |x::xs,hs=>nO (hs x Pm) (λy hy=>hs y (Pj _ ((fR xs).mem_iff.mp hy))) (fZ λy hy=>hs y (Pj _ hy))
theorem vH{α β:Type}:∀{l:List (α×β)},(l.map (·.1)).Nodup->∀{a b:α×β},a∈l->b∈l->a.1=b.1->a=b
 |[],_,_,_,h,_,_=>nomatch h
 |x::l,nd,a,b,ha,hb,e=>by
  rw[Pv,Rw]at nd;rcases PC.mp ha with rfl|ha'
  ·rcases PC.mp hb with rfl|hb'
   ·rfl
   ·exact(nd.1 (Pw.mpr ⟨b,hb',e.symm⟩)).elim
  ·rcases PC.mp hb with rfl|hb'
   ·exact(nd.1 (Pw.mpr ⟨a,ha',e⟩)).elim
   ·exact vH nd.2 ha' hb' e
theorem sN{xs ys:List KP}(hs:∀y∈xs,shape y.1=S)(nd:(xs.map (·.1)).Nodup)(hp:ys.Perm xs)(h:ys.Pairwise (λa b=>aN b.1 a.1=false)):ys=fG xs:=by
 refine RU (le:=λa b=>aN b.1 a.1=false) (λa b ha hb h1 h2=>?_) h (fZ hs) (hp.trans (fR xs).symm);have ha':=hp.mem_iff.mp ha;have hb':=(fR xs).mem_iff.mp hb;exact vH nd ha' hb' (jB ((hs a ha').trans (hs b hb').symm) h2 h1)
open Classical in
noncomputable def sortBy(b:Bool)(ks ys:List PV):Option (List PV):=match sJ ks with
 |some ae=>if ae.length<64/\ae.length=ys.length/\qO ae=true/\ae.Nodup then some ((PySem.W.katRev b (fG (ae.zip ys))).map (·.2)) else none
 |none=>none
theorem D7(h1:ae.length<64)(h2:ae.length=ys.length)(h3:qO ae=true)(h4:ae.Nodup):sortBy b (ae.map tP) ys=some ((PySem.W.katRev b (fG (ae.zip ys))).map (·.2)):=by
 unfold sortBy;rw[zJ];exact if_pos ⟨h1,h2,h3,h4⟩
noncomputable def fS(f:Fn)(b:Bool)(ys:List PV):List PV->List PV->PH->Rs PV
 |[],ks,h=>match sortBy b ks ys with
  |some zs=>.ok (.ref h.length) (h++[.lst zs])
  |none=>.bad
 |x::xs,ks,h=>(f [x] h).bind λk h1=>fS f b ys xs (ks++[k]) h1
def iG(x:PV)(h:PH):Option (List PV):=match x with
 |.ref n=>match aL h n with
  |some ys=>some ys
  |none=>sM h n
 |.fl ys=>some ys
 |_=>none
noncomputable def jI(f:Fn)(b:Bool)(x:PV)(h:PH):Rs PV:=match iG x h with
 |some ys=>if ys.length<64 then fS f b ys ys [] h else .bad
 |none=>.bad
noncomputable def iH(f:Fn)(b:Bool)(me:Me):Me:=λδ h=>(me δ h).bind λx h1=>jI f b x h1
theorem RVs.pick(r:RVs C φ H xs vs):∀{p:List Nat},(∀i∈p,i<xs.length)->RVs C φ H (p.map λi=>xs.getD i .non) (p.map λi=>vs.getD i .non)
 |[],_=>trivial
 |i::p,h=>by
  have hi:=h i Pm;have g:xs[i]?=some (xs.getD i .non):=by simp[hi]
  obtain⟨v,hv,hr⟩:=r.at g;have e:vs.getD i .non=v:=by simp[Ry,hv]
  refine⟨?_,RVs.pick r λj hj=>h j (Pj _ hj)⟩
  show RV C φ H (xs.getD i .non) (vs.getD i .non)
  rw[e];exact hr
theorem EH(I:Inv X pins σ H s)(ha:s.heap.objs.size<=a):X.s₀.heap.objs.size<=a/\a≠X.env.locals/\(∀x c,X.env.cells.lookup x=some c->c≠a)/\(∀p∈X.pn++pins,p.1≠a)/\a∉X.fs:=by
 refine⟨P6 I.sz ha,SQ (PN I.lt ha),λx c e z=>?_,λp hp z=>?_,I.nofs ha⟩
 ·obtain⟨v,o,ho,_⟩:=I.cell x c e;rw[z]at ho;exact absurd (PN (Py ho) ha) (Rg _)
 ·have ho:=(I.pin p hp).1;rw[z]at ho;exact absurd (PN (Py ho) ha) (Rg _)
theorem jJ{its:Array Value}{e:Nat}:∀v,(seqObj "list" its e).data≠.cell v:=λv z=>nomatch z
theorem Inv.adopt{d:Addr}{o:HO}(I:Inv X pins σ H s)(ha:H a=none)(hd:H d=none)(fa:X.s₀.heap.objs.size<=a/\a≠X.env.locals/\(∀x c,X.env.cells.lookup x=some c->c≠a)/\(∀p∈X.pn++pins,p.1≠a)/\a∉X.fs)(fd:X.s₀.heap.objs.size<=d/\d≠X.env.locals/\(∀x c,X.env.cells.lookup x=some c->c≠d)/\(∀p∈X.pn++pins,p.1≠d)/\d∉X.fs)(kp:∀x u,x≠a->x≠d->s.heap.get? x=some u->h'.get? x=some u)(new:aZ X.prog X.w (upd H a o) h' a o):Inv X pins σ (upd H a o) { s with heap:=h' }:=by
 have na:∀x u,H x=some u->x≠a:=λx u e z=>by rw[z,ha]at e;cases e
 have nd:∀x u,H x=some u->x≠d:=λx u e z=>by rw[z,hd]at e;cases e
 refine I.call' (s':={ s with heap:=h' }) (ch:=[a,d]) rfl ⟨λb u q n _ hx=>?_,λb u q n _ hx=>⟨u.slots,?_⟩,λb u q n hx=>?_,λb u q hx=>⟨u,?_⟩,λb xs q=>?_,λb u xs q=>?_,λb ps q=>⟨#[],?_⟩⟩ (λb u e=>?_) I.bare λb hb=>?_
 ·exact kp b u (λz=>hx (by simp[z])) (λz=>hx (by simp[z])) q
 ·exact kp b u (λz=>hx (by simp[z])) (λz=>hx (by simp[z])) q
 ·rw[aE (λz=>hx (by simp[z]))];exact n
 ·exact kp b u (λz=>hx (by simp[z])) (λz=>hx (by simp[z])) q
 ·rw[aE (na _ _ q)];exact q
 ·rw[aE (na _ _ q)];exact q
 ·rw[aE (na _ _ q),q];simp
 ·by_cases hb:b=a
  ·subst hb;rw[aI]at e;cases e;exact new
  ·rw[aE hb]at e;refine(I.hok b u e).stay (λc v hc q=>kp c v ?_ ?_ q) (λc q=>by rw[aE (na _ _ q)];exact q) λc xs q=>by rw[aE (na _ _ q)];exact q
   ·rcases hc with z|z
    ·rw[z];exact hb
    ·exact na _ _ z
   ·rcases hc with z|z
    ·rw[z];exact nd _ _ e
    ·exact nd _ _ z
 ·rcases PC.mp hb with rfl|hb
  ·exact⟨.inr fa.1,fa.2.1,fa.2.2.1,fa.2.2.2.1⟩
  ·rw[Pz.mp hb];exact⟨.inr fd.1,fd.2.1,fd.2.2.1,fd.2.2.2.1⟩
def JX(C:MC)(X:Cx)(pins:List (Addr×Obj))(σ:St)(φ:List Addr)(H:Hp)(f:Fn)(b:Bool)(ys:List PV)(Q:VK)(a z:Addr)(kS:Addr)(e1:Nat)(ks:List Value)(e:Nat)(s':Shared):Prop:=
 z<kS/\∃H' φ' h' zs ps,Inv X (pins++[(kS,seqObj "list" ks.toArray e),(a,seqObj "list" #[] e1)]) σ H' s'/\φ<+:φ'/\Kp H H'/\RH C φ' H' h'/\aJ zs ks/\RVs C φ' H' ps zs/\post C φ' H' (fS f b ys (ys.drop ks.length) ps h') Q
variable{A':Around}{pn:List Str}
theorem EI{k:Nat}{q:Addr}{f:Fn}{us:List V}{Q:VK}(c:Cxt C k X)(D:Def C.K X.mg x st q fd pn)(G:bV X.prog X.w C.K X.mg X.base CX0 j q fd pn (spM C 1 f))(hj:j+2<=k)(ry:RVs C φ H ys us)(rv:aJ us its)(eA:A'=X.A.in1.in1)(fr:∀kS,a<=kS->X.s₀.heap.objs.size<=kS/\kS≠X.env.locals/\(∀x c,X.env.cells.lookup x=some c->c≠kS)/\(∀p∈X.pn++pins,p.1≠kS)/\kS∉X.fs)(kS:Addr)(e1:Nat)(ks:List Value)(e:Nat)(s':Shared)(y:Value)(hy:its[ks.length]?=some y)(hJ:JX C X pins σ φ H f b ys Q a a kS e1 ks e s'):
  wpAny (model X.prog X.w) A' (call (.ref q) [y]) (λv da=>da.heap.get? kS=some (seqObj "list" ks.toArray e)/\∀(h':Heap) e',QN kS da.heap h'->h'.get? kS=some (seqObj "list" (ks++[v]).toArray e')->JX C X pins σ φ H f b ys Q a a kS e1 (ks++[v]) e' { da with heap:=h' }) (λ_ _=>False) s':=by
 subst eA;obtain⟨hz,H',φ',h',zs,ps,I,pp,tt,rh,rz,rp,po⟩:=hJ;have ba:ks.length<its.length:=(Pg.mp hy).1;have wb:us.length=its.length:=rv.length;have vy:ys.length=us.length:=ry.length;have gy:ys[ks.length]?=some (ys[ks.length]'(by omega)):=by simp
 obtain⟨u,hu,ru⟩:=ry.at gy;obtain⟨y',jt,xn⟩:=rv.get hu;rw[hy]at jt;cases jt
 have hd:ys.drop ks.length=ys[ks.length]'(by omega)::ys.drop (ks.length+1):=drop_cons gy;rw[hd]at po;have v5:=c.K;have G':bV X.prog X.w X.K X.mg X.base CX0 j q fd pn (spM C 1 f):=by rw[v5];exact G
 have D':Def X.K X.mg x st q fd pn:=by rw[v5];exact D
 have vx:spM C 1 f [u] H' (λv H2=>∃φ2 p h2,φ'<+:φ2/\Kp H' H2/\RH C φ2 H2 h2/\RV C φ2 H2 p v/\post C φ2 H2 (fS f b ys (ys.drop (ks.length+1)) (ps++[p]) h2) Q) E0:=
  ⟨φ',h',[ys[ks.length]'(by omega)],rh,⟨ru.mono pp tt,trivial⟩,rfl,post.bind po⟩
 have hl:([y]:List Value).length=pn.length:=G'.len _ _ _ _ vx;refine wpAny_call (codeAny_mono (G'.run X.A.in1.in1 X.stack s' H' ⟨[y],[]⟩ [y] [u] _ E0 ((c.room.mono hj).in1.in1) I.env0.in1.in1 (by
  have:=D'.bd s' [y] I.kIn (by simpa using hl)
  simpa using this) (.cons xn .nil) vx) λr s2 hq=>?_)
 cases r with
 |error e=>exact hq.elim
 |ok fl=>
  cases fl with
  |next=>exact Re hq
  |brk=>exact Re hq
  |cont=>exact Re hq
  |ret v=>
   obtain⟨x2,H2,I2,OA,φ2,p2,h2,w6,wx,ag,sx,xp⟩:=I.after hq;have gk:=I2.pin (kS,seqObj "list" ks.toArray e) (Pp _ (Pp _ Pm));have ga:=I2.pin (a,seqObj "list" #[] e1) (Pp _ (Pp _ (Pj _ Pm)));refine⟨gk.1,λg e' sb gp=>?_⟩;have fk:=fr kS (RY hz);have z0:a≠kS:=Qd hz;have I3:Inv X (pins++[(a,seqObj "list" #[] e1)]) σ H2 s2:=I2.pins_of λp hp=>(PK.mp hp).elim (λz=>I2.pin p (Pp _ (Qe _ z))) λz=>by
    rw[Pz.mp z];exact ga
   have I4:=I3.turned (t':=s2.toks) (it:=kS) (h':=g) (λb' o' hb hq=>(sb.2 b' hb).trans hq) gk.2.1 fk.2.1 (.inr fk.1) fk.2.2.1 (λp hp=>by
    rcases PK.mp hp with hp|hp
    ·exact fk.2.2.2.1 p (Qe _ hp)
    ·rcases PK.mp hp with hp|hp
     ·exact fk.2.2.2.1 p (Pp _ hp)
     ·rw[Pz.mp hp];exact z0)
   refine⟨hz,H2,φ2,h2,zs++[x2],ps++[p2],I4.pins_of λp hp=>?_,pp.trans w6,tt.trans wx,ag,rz.append (.cons OA .nil),(rp.mono w6 wx).snoc sx,?_⟩
   ·rcases PK.mp hp with hp|hp
    ·exact I4.pin p (Pp _ (Qe _ hp))
    ·rcases PC.mp hp with rfl|hp
     ·exact⟨gp,gk.2.1,fk.2.1,fk.2.2.2.2,jJ⟩
     ·rw[Pz.mp hp];exact I4.pin _ (Pp _ (Pp _ Pm))
   ·rw[QB];exact xp
theorem zR(hl:ae.length=ys.length)(hs:∀y∈ae,shape y=S)(nd:ae.Nodup){p:List Nat}(hp:p.Perm (Qb ys.length))(ho:p.Pairwise (λi j=>(if b then aN (ae.getD i []) (ae.getD j []) else aN (ae.getD j []) (ae.getD i []))=false)):p.map (λi=>ys.getD i .non)=(PySem.W.katRev b (fG (ae.zip ys))).map (·.2):=by
 let zs:=ae.zip ys;have zq:zs.length=ys.length:=by show(ae.zip ys).length=_;simp[hl]
 have cv:∀i∈p,i<ys.length:=λi hi=>by simpa using hp.mem_iff.mp hi
 have eg:∀i,i<ys.length->zs.getD i ([],.non)=(ae.getD i [],ys.getD i .non):=λi hi=>by
  have h1:i<ae.length:=by omega
  have h2:i<zs.length:=by omega
  have h3:(ae.zip ys)[i]?=some (ae[i],ys[i]):=by
   rw[List.getElem?_zip_eq_some];exact⟨by simp[h1],by simp[hi]⟩
  show(ae.zip ys).getD i _=_
  simp[h1,hi,h3]
 have vt:(p.map λi=>zs.getD i ([],.non)).Perm zs:=CI (by rw[zq];exact hp);have hm:zs.map (·.1)=ae:=by
  show(ae.zip ys).map Prod.fst=ae
  exact List.map_fst_zip (by omega)
 have hsz:∀y∈zs,shape y.1=S:=λy hy=>hs _ (by rw[<-hm];exact Pw.mpr ⟨y,hy,rfl⟩);have e2:p.map (λi=>ys.getD i .non)=(p.map λi=>zs.getD i ([],.non)).map (·.2):=by
  rw[Qq];exact QI λi hi=>by show _=(zs.getD i _).2;rw[eg i (cv i hi)]
 rw[e2];have key:∀(R:Nat->Nat->Bool),p.Pairwise (λi j=>R i j=false)->(∀i j,i<ys.length->j<ys.length->R i j=aN (zs.getD j ([],.non)).1 (zs.getD i ([],.non)).1)->(p.map λi=>zs.getD i ([],.non)).Pairwise (λx y=>aN y.1 x.1=false):=λR h1 h2=>by
  rw[Q1];exact h1.imp_of_mem λ{i j} hi hj h=>by rw[<-h2 i j (cv i hi) (cv j hj)];exact h
 cases b with
 |false=>
  congr 1
  refine sN hsz (by rw[hm];exact nd) vt (key (λi j=>aN (ae.getD j []) (ae.getD i [])) ho λi j hi hj=>by rw[eg i hi,eg j hj])
 |true=>
  congr 1
  have hr:(p.map λi=>zs.getD i ([],.non)).reverse=fG zs:=by
   refine sN hsz (by rw[hm];exact nd) ((RT _).trans vt) ?_;rw[Sn,Q1];exact ho.imp_of_mem λ{i j} hi hj h=>by
    rw[eg i (cv i hi),eg j (cv j hj)];exact h
  show _=(fG zs).reverse
  rw[<-hr,List.reverse_reverse]
variable{kw:List (Str×Value)}
set_option tactic.hygienic true in
theorem sO{k:Nat}{q:Addr}{f:Fn}(c:Cxt C k X)(D:Def C.K X.mg x st q fd pn)(G:bV X.prog X.w C.K X.mg X.base CX0 j q fd pn (spM C 1 f))(hj:j+2<=k)(OD:∀v,argsOk "sorted" ⟨[v],kw⟩)(aq:∀v,argsOk "list.sort" ⟨[.ref v],kw⟩)(ht:∀v,Builtin.«list.sort» ⟨[.ref v],kw⟩=ksk_tree v (.ref q) b){Q:VK}(I:Inv X pins σ H s)(ru:RelV v u)(h:r1 C (jI f b) v H Q):
  wpAny (model X.prog X.w) X.A (call (.builtin "sorted") [u] kw) (EP X pins σ Q) X.xe s:=by
 obtain⟨φ,h,p,rh,rp,po⟩:=h;unfold jI at po;cases ei:iG p h with
 |none=>rw[ei]at po;exact po.elim
 |some ys=>
 rw[ei]at po;obtain⟨i6,po⟩:=po.ite;refine call_function_entry_kw kind_sorted plain_sorted entry_sorted (OD u) ?_;unfold Builtin.«sorted»;refine Pf (m:=checkCount "sorted" 1 1 _) (Ph ?_);have col:wpAny (model X.prog X.w) X.A.in1 (collect u) (λits s1=>∃us,Inv X pins σ H s1/\aJ us its/\RVs C φ H ys us) X.xe s:=by
  have jg:∀{a:Addr}{vs:List V},v=.ref a->SqL C.K H a vs->RVs C φ H ys vs->wpAny (model X.prog X.w) X.A.in1 (collect u) (λits s1=>∃us,Inv X pins σ H s1/\aJ us its/\RVs C φ H ys us) X.xe s:=λ{a vs} ev sa ra=>by
   subst ev;cases ru
   have q0:SqL X.K H a vs:=by rw[c.K];exact sa
   obtain⟨its,rv,pl,hz⟩:=I.list q0;refine collect_list pl.isList ?_ (by have:=rv.length;have:=ra.length;rw[QE];omega);exact⟨vs,I.kept (t':=s.toks) λb o e=>by
    have ba:b<s.heap.objs.size:=Py e
    first
     |(rw[Heap.get?_update_ne _ _ _ _ (Qd ba),Heap.get?_push_ne _ _ _ (Qd ba)];exact e)
     |exact Pn _ e,rv,ra⟩
  unfold iG at ei;split at ei
  ·rename_i n;split at ei
   ·rename_i ys' e;cases ei
    obtain⟨a,ev,ha⟩:=rp;obtain⟨a2,vs,aq,sa,ra⟩:=bF rh e;rw[ha]at aq;cases aq;exact jg ev sa ra
   ·unfold sM at ei;split at ei
    ·rename_i d hv;obtain⟨a,ev,ha⟩:=rp;subst ev;cases ru
     obtain⟨bb,hb,hH⟩:=rh.at' n a _ ha hv;obtain⟨hT,hm,hz,oc,es,ep,g1,g2,ws,r1,r2⟩:=zM c I rh hb ei;have xt:s.heap.IsValuesView a bb:=(I.hok a _ hH).1;have hn:es.size<=Pt:=by
      have e1:=r1.length;have e2:ws.length=es.size:=by have:=r2.length;simpa using this
      rw[<-e2,<-e1];exact hz
     refine PySem.W.kdu_collect (Eb (r:=a) g2) (I.ok.hd c.calm) ⟨xt,g1⟩ hn λh' tk acc hk bx=>?_;exact⟨ws,I.kept (t':=tk) hk,by rw[EG bx];exact r2,r1⟩
    ·cases ei
  ·cases ei
   obtain⟨a,vs,ev,sa,ra⟩:=rp;exact jg ev sa.sq ra
  ·cases ei
 refine Pf (Rz col (λits s1 hh=>?_) λ_ _ z=>z);obtain⟨us,I1,rv,ry⟩:=hh;have wb:us.length=its.length:=rv.length;have vy:ys.length=us.length:=ry.length;refine Pf (wpAny_newList ?_ (by rw[QE];omega));have pd:(s1.heap.push (seqObj "list" its.toArray 0)).get? s1.heap.objs.size=some (seqObj "list" its.toArray 0):=Pr _ rfl;have keep:∀b o,s1.heap.get? b=some o->b≠s1.heap.objs.size/\(s1.heap.push (seqObj "list" its.toArray 0)).get? b=some o:=λb o q=>⟨Qd (Py q),Pn _ q⟩;have fr:∀kS,s1.heap.objs.size<=kS->X.s₀.heap.objs.size<=kS/\kS≠X.env.locals/\(∀x c,X.env.cells.lookup x=some c->c≠kS)/\(∀p∈X.pn++pins,p.1≠kS)/\kS∉X.fs:=λkS hk=>EH I1 hk
 show wpAny _ _ _ _ _ { s1 with heap:=s1.heap.push (seqObj "list" its.toArray 0) }
 refine Pf (Rq (wpAny_call_entry_kw slot_list_sort ⟨_,pd,rfl⟩ entry_list_sort ?body (aq _)))
 case body=>
  show wpAny (model X.prog X.w) X.A.in1.in1 (Builtin.«list.sort» ⟨[.ref s1.heap.objs.size],kw⟩) _ _ _
  rw[ht s1.heap.objs.size];refine AJ (s:={ s1 with heap:=s1.heap.push (seqObj "list" its.toArray 0) }) (a:=s1.heap.objs.size) (κ:=tuples' true) (vs:=its) pd (by omega) (JX C X pins σ φ H f b ys Q s1.heap.objs.size s1.heap.objs.size) ?h0 ?c9 ?turn ?fin
  case h0=>
   intro kS e1 h' kp hk g1 g2;have kg:s1.heap.objs.size<kS:=by
    have:(s1.heap.push (seqObj "list" its.toArray 0)).objs.size<=kS:=hk;rw[Sv]at this;exact this
   have I2:Inv X pins σ H { s1 with heap:=h' }:=I1.kept (t':=s1.toks) λb o q=>kp b o (keep b o q).1 (keep b o q).2;have fk:=fr kS (RY kg);have fa:=fr s1.heap.objs.size (Pk _);refine⟨kg,H,φ,h,[],[],I2.pins_of λp hp=>?_,Po,Kp.refl H,rh,.nil,trivial,po⟩;rcases PK.mp hp with hp|hp
   ·exact I2.pin p (Pp _ hp)
   ·rcases PC.mp hp with rfl|hp
    ·exact⟨g2,I1.hok.fresh (RY kg),fk.2.1,fk.2.2.2.2,jJ⟩
    ·rw[Pz.mp hp];exact⟨g1,I1.hok.fresh (Pk _),fa.2.1,fa.2.2.2.2,jJ⟩
  case c9=>
   rintro kS e1 ks e s' ⟨hz,H',φ',h',zs,ps,I',_⟩;exact⟨SQ hz,(I'.pin (s1.heap.objs.size,seqObj "list" #[] e1) (Pp _ (Pp _ (Pj _ Pm)))).1,(I'.pin (kS,seqObj "list" ks.toArray e) (Pp _ (Pp _ Pm))).1⟩
  case turn=>
   intro kS e1 ks e s' y hy hJ;exact EI c D G hj ry rv rfl fr kS e1 ks e s' y hy hJ
  case fin=>
   rintro kS e1 ks e s' hl ⟨hz,H',φ',h',zs,ps,I',pp,tt,bg,rz,rp',po'⟩;have hd:ys.drop ks.length=[]:=List.drop_eq_nil_of_le (by omega);rw[hd]at po';unfold fS at po';cases es:sortBy b ps ys with
   |none=>rw[es]at po';exact po'.elim
   |some out=>
   rw[es]at po';unfold sortBy at es;split at es
   ·rename_i ae ek;split at es
    ·rename_i hc;obtain⟨hc1,di,p8,Io⟩:=hc;cases es
     have ep:=zI ek;subst ep;obtain⟨bb,sh,hsh⟩:=AW p8;have rr:eQ X.K H' (ae.map tD) zs:=by rw[c.K];exact BO.mp rp'
     have tk:=rS I' rr rz;have eu:∀i,i<its.length->shape (ae.getD i [])=bb::sh:=λi hi=>by
      have au:i<ae.length:=by omega
      have:ae.getD i []=ae[i]:=by simp[au]
      rw[this];exact hsh _ (List.getElem_mem au)
     refine⟨λi j=>aN (ae.getD i []) (ae.getD j []),λi j k hi hj hk h1 h2=>?_,λi j _ _ h=>qT h,λh2 Q' E' hq=>?_,λi j hi hj Q' hq=>?_,λp g e2 a1 a2 kp he gk=>?_⟩
     ·exact mW ((eu i hi).trans (eu j hj).symm) ((eu j hj).trans (eu k hk).symm) h1 h2
     ·exact CH tk hsh (by omega) hq
     ·obtain⟨a,ua,q1,p1,r1⟩:=tk.get (i:=i) (by omega);obtain⟨d,ud,q2,p2,r2⟩:=tk.get (i:=j) (by omega);rw[q1,q2];exact Az p1 p2 r1 r2 ((eu i hi).trans (eu j hj).symm) hq
     ·have cv:∀i∈p,i<its.length:=λi hi=>by simpa using a1.mem_iff.mp hi
      have fa:=fr s1.heap.objs.size (Pk _);have fk:=fr kS (RY hz);have yk:=I'.pin (kS,seqObj "list" ks.toArray e) (Pp _ (Pp _ Pm));have wu:=I'.pin (s1.heap.objs.size,seqObj "list" #[] e1) (Pp _ (Pp _ (Pj _ Pm)));have I5:Inv X pins σ H' s':=I'.unpinned;have I6:=I5.adopt (a:=s1.heap.objs.size) (d:=kS) (o:=.lst (p.map λi=>us.getD i .non)) (h':=g) wu.2.1 yk.2.1 fa fk (λx o h1 h2 q=>kp x o h1 h2 q) (by
       refine⟨?_,p.map (λi=>its.getD i PU),e2,uZ rv (λi hi=>by have:=cv i hi;omega),he⟩;rw[Pl,a1.length_eq,List.length_range,QE];omega)
      refine⟨_,rfl,Ph ⟨_,rfl,.ref s1.heap.objs.size,_,I6,rfl,?_⟩⟩;refine po'.lnew bg ?_ wu.2.1;rw[<-zR (b:=b) di hsh Io (p:=p) (by rw[vy,wb];exact a1) a2];exact(ry.mono pp tt).pick (λi hi=>by have:=cv i hi;omega)
    ·cases es
   ·cases es
variable{dk kp:Pos}{kf:Str}
section
variable{q:Addr}{jb:Nat}{f:Fn}{p rp gq:Pos}
theorem zS{Q:VK}(h:rd C (iH f b me) σ H Q):I0 (rd C me) Gd σ H λvs H1=>∃x,vs=[x]/\r1 C (jI f b) x H1 Q:=by
 obtain⟨φ,δ,h,rh,re,po⟩:=h;refine⟨φ,δ,h,rh,re,(post.bind po).imp ?_⟩;rintro v H1 ⟨φ1,x,h1,p1,t1,aa,ab,q1⟩;exact⟨v,rfl,φ1,h1,x,aa,ab,q1⟩
theorem GY{k:Nat}(D:Def C.K X.mg kf st q fd pn)(G:bV X.prog X.w C.K X.mg X.base CX0 j q fd pn (spM C 1 f))(he:SE C k X e me)(hb:("sorted" : Str)∈C.bs)(hj:j+2<=k:=by decide)(hg:Gl X "sorted" := by rfl)(tw:Gl X kf:=by rfl)(hdk:(kf == ("__debug__" : Str))=false:=by decide)(f7:PJ [e] X.env=(false,eval e X.env)::PJ [] X.env:=by rfl)(tj:backTo pos (PJ [e] X.env)=(false,eval e X.env)::backTo pos (PJ [] X.env):=by rfl)(bw:(backTo pos (PJ [e] X.env)).any (·.1)=false:=by rfl):
  SE C k X (.Call (.Name "sorted" p) [e] [⟨some "key",.Name kf kp,dk⟩] pos) (iH f false me):=λc pins s σ H Q I h=>by
 refine Q4 (kR I hg (c.bn _ hb) PyProof.Rows.Boot.«sorted» ?_ (by decide) (by decide));refine callWith_kw (thn (vW (he c) Ap f7 pos pins s σ H _ I (zS h)) λus s1 hh=>?_) tj bw;obtain⟨vs,H1,I1,rv,x,rfl,r⟩:=hh;obtain⟨u,rfl,ru⟩:=vals1 rv;refine kws_cons (gY I1 tw D.mg (kws_nil ?_) hdk)
 show wpAny _ _ (call (.builtin "sorted") [u] [(PM "key",.ref q)]) _ _ _
 exact sO c D G hj (λv=>ksk_s1 _ _) (λv=>ksk_l1 _ _) (λv=>ksk_t1 _ _) I1 ru r
theorem EJ{k:Nat}(D:Def C.K X.mg kf st q fd pn)(G:bV X.prog X.w C.K X.mg X.base CX0 j q fd pn (spM C 1 f))(he:SE C k X e me)(hb:("sorted" : Str)∈C.bs)(hj:j+2<=k:=by decide)(hg:Gl X "sorted" := by rfl)(tw:Gl X kf:=by rfl)(hdk:(kf == ("__debug__" : Str))=false:=by decide)(f7:PJ [e] X.env=(false,eval e X.env)::PJ [] X.env:=by rfl)(tj:backTo pos (PJ [e] X.env)=(false,eval e X.env)::backTo pos (PJ [] X.env):=by rfl)(bw:(backTo pos (PJ [e] X.env)).any (·.1)=false:=by rfl):
  SE C k X (.Call (.Name "sorted" p) [e] [⟨some "key",.Name kf kp,dk⟩,⟨some "reverse",.Constant (.bool b) jb rp,gq⟩] pos) (iH f b me):=λc pins s σ H Q I h=>by
 refine Q4 (kR I hg (c.bn _ hb) PyProof.Rows.Boot.«sorted» ?_ (by decide) (by decide));refine callWith_kw (thn (vW (he c) Ap f7 pos pins s σ H _ I (zS h)) λus s1 hh=>?_) tj bw;obtain⟨vs,H1,I1,rv,x,rfl,r⟩:=hh;obtain⟨u,rfl,ru⟩:=vals1 rv;refine kws_cons (gY I1 tw D.mg (kws_cons (Constant_bool (kws_nil ?_))) hdk)
 show wpAny _ _ (call (.builtin "sorted") [u] [(PM "key",.ref q),(PM "reverse",.bool b)]) _ _ _
 exact sO c D G hj (λv=>ksk_s2 _ _ _) (λv=>ksk_l2 _ _ _) (λv=>ksk_t2 _ _ _) I1 ru r
end
open PySem
section
variable{α:Type}(key:α->List Key)
def D8(x:α):List α->List α
 |[]=>[x]
 |y::ys=>if aN (key y) (key x)=true then y::D8 x ys else x::y::ys
def jK:List α->List α
 |[]=>[]
 |x::xs=>D8 key x (jK xs)
variable{key}
theorem vI(x:α):∀ys,(D8 key x ys).Perm (x::ys)
 |[]=>.refl _
 |y::ys=>by
  unfold D8;split
  ·exact((vI x ys).cons y).trans (.swap x y ys)
  ·exact .refl _
theorem lL:∀xs,(jK key xs).Perm xs
 |[]=>.refl _
 |x::xs=>(vI x _).trans ((lL xs).cons x)
theorem zT(f:α->PV)(x:α):∀ys:List α,qH (key x,f x) (ys.map λy=>(key y,f y))=(D8 key x ys).map λy=>(key y,f y)
 |[]=>rfl
 |y::ys=>by
  rw[Pv];unfold qH D8;dsimp only;split
  ·rw[zT f x ys];rfl
  ·rfl
theorem oV(f:α->PV):∀xs:List α,fG (xs.map λy=>(key y,f y))=(jK key xs).map λy=>(key y,f y)
 |[]=>rfl
 |x::xs=>by
  rw[Pv];unfold fG jK;rw[oV f xs,zT]
theorem wZ(f:α->PV){xs:List α}(hs:∀x∈xs,shape (key x)=S):(jK key xs).Pairwise (λa b=>aN (key b) (key a)=false):=by
 have h:=fZ (S:=S) (xs:=xs.map λy=>(key y,f y)) (λy hy=>by
  obtain⟨x,hx,rfl⟩:=Pw.mp hy;exact hs x hx)
 rw[oV,Q1]at h;exact h
theorem zU{β γ:Type}(f:α->β)(g:α->γ):∀xs:List α,(xs.map f).zip (xs.map g)=xs.map λx=>(f x,g x)
 |[]=>rfl
 |x::xs=>by simp[zU f g xs]
theorem EK{f:α->PV}{xs:List α}(h1:xs.length<64)(h3:qO (xs.map key)=true)(h4:(xs.map key).Nodup):sortBy b ((xs.map key).map tP) (xs.map f)=some ((PySem.W.katRev b (jK key xs)).map f):=by
 rw[D7 (by simpa using h1) (by simp) h3 h4,zU,oV]
 cases b with
 |false=>
  show some (((jK key xs).map λy=>(key y,f y)).map Prod.snd)=some ((jK key xs).map f)
  rw[Qq];rfl
 |true=>
  show some ((((jK key xs).map λy=>(key y,f y)).reverse).map Prod.snd)=some ((jK key xs).reverse.map f)
  rw[<-SJ,Qq];rfl
theorem EL{f:Fn}{b:Bool}{emb:α->PV}{ys zs:List PV}{Q:PV->PH->Prop}:∀(r done:List α)(h:PH),(∀d∈r,∀h(Q:PV->PH->Prop),(∀h',Ext h h'->Q (tP (key d)) h')->(f [emb d] h).W Q)->
  sortBy b (((done++r).map key).map tP) ys=some zs->(∀h',Ext h h'->Q (.ref h'.length) (h'++[.lst zs]))->(fS f b ys (r.map emb) ((done.map key).map tP) h).W Q
 |[],done,h,_,hs,k=>by
  rw[RQ]at hs;simp only[List.map_nil,fS,hs,oP];exact k h (Ext.refl h)
 |x::r,done,h,hf,hs,k=>by
  rw[Pv];unfold fS;rw[AO];refine hf x Pm h _ λh1 x1=>?_;have e:(done.map key).map tP++[tP (key x)]=((done++[x]).map key).map tP:=by simp
  rw[e];exact EL r (done++[x]) h1 (λd hd=>hf d (Pj _ hd)) (by rw[List.append_assoc];exact hs) λh' x2=>k h' (x1.trans x2)
theorem xB{f:Fn}{emb:α->PV}{xs:List α}{x:PV}{Q:PV->PH->Prop}(e:iG x h=some (xs.map emb))(h1:xs.length<64)(h3:qO (xs.map key)=true)(hs:∀x∈xs,shape (key x)=S)(h4:(xs.map key).Nodup)(hf:∀d∈xs,∀h(Q:PV->PH->Prop),(∀h',Ext h h'->Q (tP (key d)) h')->(f [emb d] h).W Q)(k:∀(os:List α) h',Ext h h'->os.Perm xs->os.Pairwise (λp q=>(if b then aN (key p) (key q) else aN (key q) (key p))=false)->Q (.ref h'.length) (h'++[.lst (os.map emb)])):(jI f b x h).W Q:=by
 unfold jI;rw[e];dsimp only;rw[if_pos (by simpa using h1)]
 refine EL (key:=key) xs [] h hf (EK h1 h3 h4) λh' hx=>k _ h' hx ?_ ?_
 ·cases b with
  |false=>exact lL xs
  |true=>exact(RT _).trans (lL xs)
 ·have hp:=wZ emb hs;cases b with
  |false=>exact hp
  |true=>
   show((jK key xs).reverse).Pairwise _
   rw[Sn];exact hp
end
@[simp]theorem KF{f:Fn}:iH f b m δ h=(m δ h).bind λx h1=>jI f b x h1:=(rfl)
theorem sP(e:h[n]?=some (.lst xs)):iG (.ref n) h=some xs:=by simp[iG,aL,e]
set_option tactic.hygienic true in
theorem vJ(e:aT h n=some kvs):iF h n=some (kvs.map (·.2)):=by
 unfold aT at e;split at e
 ·rename_i q;cases e;simp[iF,q]
 ·rename_i q;cases e;simp[iF,q]
 ·cases e
set_option tactic.hygienic true in
theorem bI(e:aT h n=some kvs):∃o,h[n]?=some o/\aV (.ref n) h=true/\∀h',h'[n]?=some o->aT h' n=some kvs:=by
 unfold aT at e;split at e
 ·rename_i q;cases e;exact⟨_,q,by simp[aV,q],λh' e=>by simp[aT,e]⟩
 ·rename_i q;cases e;exact⟨_,q,by simp[aV,q],λh' e=>by simp[aT,e]⟩
 ·cases e
theorem eM{h':PH}(x:Ext h h')(e:aT h n=some kvs):aT h' n=some kvs:=by
 obtain⟨o,g,_,k⟩:=bI e;exact k h' (x _ _ g)
theorem zV{d:Nat}(e:h[n]?=some (.vw 1 d))(e2:aT h d=some kvs):iG (.ref n) h=some (kvs.map (·.2)):=by
 have e1:aL h n=none:=by simp[aL,e]
 simp only[iG,e1,sM,e];exact vJ e2
theorem GZ{d:Nat}(e:aT h d=some kvs):vF (.ref d) [] h=.ok (.ref h.length) (h++[.vw 1 d]):=by simp[vF,vJ e]
theorem AY(e:aT h n=some kvs)(hk:(PV.tup xs).ky 6=true)(hl:kvs.length<16777216):oR (.ref n) (.tup xs) z h=some (h.set n (.dD (cR kvs (.tup xs) z))):=by
 have k1:(PV.tup xs).isKt=true:=hk;have fg:kvs.length<Pt:=by rw[iC];exact hl
 unfold oR;simp only[oI,k1,if_true,e];rw[if_pos fg]
theorem vK(e:aT h n=some kvs)(hk:(PV.tup xs).ky 6=true):bG (.tup xs) (.ref n) h=.ok (.bl (!(aH kvs (.tup xs)).isSome)) h:=by
 have k1:(PV.tup xs).isKt=true:=hk;have:eS (.tup xs) (.ref n) h=some (aH kvs (.tup xs)):=by simp only[eS,k1,if_true,e,RW]
 unfold bG;rw[this]
theorem EM(e:aT h n=some kvs)(hk:(PV.tup xs).ky 6=true):iD (.tup xs) (.ref n) h=.ok (.bl (aH kvs (.tup xs)).isSome) h:=by
 have k1:(PV.tup xs).isKt=true:=hk;have:eS (.tup xs) (.ref n) h=some (aH kvs (.tup xs)):=by simp only[eS,k1,if_true,e,RW]
 unfold iD;rw[this]
theorem D9{kvs:List (Key×PV)}(e:h[n]?=some (.dK kvs))(hl:kvs.length<16777216):
  iE (.ref n) [.str x,z] h=match aH kvs (.inr x) with|some p=>.ok p h|none=>.ok z (h.set n (.dK (cR kvs (.inr x) z))):=by
 have fg:kvs.length<Pt:=by rw[iC];exact hl
 unfold iE;simp only[oI,e];cases aH kvs (.inr x) with
 |some p=>rfl
 |none=>simp only[if_pos fg]
@[simp]theorem JY:oM .non=true:=(rfl)
theorem Ext.setN{hX:PH}(x:Ext h hX)(hn:h.length<=n):Ext h (hX.set n o):=λm o' e=>by
 have:=(Pg.mp e).1;rw[PQ (by omega)];exact x m o' e
theorem JZ{kvs:List (Key×PV)}(e:h[n]?=some (.dK kvs)):vIx (.ref n) (.str x) h=ofO (aH kvs (.inr x)) h:=by
 have e1:aL h n=none:=by simp[aL,e]
 simp[vIx,e1,wL,e,oI]
theorem vL{m:Nat}(e1:h[n]?=some (.lst xs))(e2:h[m]?=some (.lst ys))(c:xs.length+ys.length<=16777216):bT (.ref n) (.ref m) h=.ok (.ref h.length) (h++[.lst (xs++ys)]):=by
 show Ee (.ref n) (.ref m) h=_
 simp[Ee,cM,e1,e2,c]
open PySem PySem.Spec PyProof.Rows
def uC(f:Str)(p:PV):List (Str×PV)->List (Str×PV)
 |[]=>[(f,p)]
 |(g,x)::r=>if g=f then(g,p)::r else(g,x)::uC f p r
def fH(x:PV)(h:PH):Option (Nat×Str×List (Str×PV)):=match x with
 |.ref n=>match h[n]? with
  |some (.ins c fs)=>some (n,c,fs)
  |_=>none
 |_=>none
def dW(f:Str):PV->PH->Rs PV:=λx h=>match fH x h with
 |some (_,_,fs)=>match fs.lookup f with
  |some p=>.ok p h
  |none=>.bad
 |none=>.bad
def kM(f:Str)(x y:PV)(h:PH):Option PH:=match fH x h with
 |some (n,c,fs)=>if fs.length<1000 then some (h.set n (.ins c (uC f y fs))) else none
 |none=>none
theorem EN{fs:List (Str×PV)}{ks:List (Str×V)}(r:RKv C φ H fs ks)(f:Str)(rv:RV C φ H p v):RKv C φ H (uC f p fs) (fX f v ks):=by
 unfold RKv at r⊢
 induction r with
 |nil=>exact .cons ⟨rfl,rv⟩ .nil
 | @cons a b as bs h t ih=>
  obtain⟨a1,a2⟩:=a;obtain⟨b1,b2⟩:=b;have e:a1=b1:=h.1;subst e;unfold uC fX
  by_cases z:a1=f
  ·rw[if_pos z,if_pos z];exact .cons ⟨rfl,rv⟩ t
  ·rw[if_neg z,if_neg z];exact .cons h ih
theorem lN{fs:List (Str×PV)}{ks:List (Str×V)}(r:RKv C φ H fs ks)(f:Str):(fs.lookup f=none/\ks.lookup f=none)\/∃p v,fs.lookup f=some p/\ks.lookup f=some v/\RV C φ H p v:=by
 unfold RKv at r
 induction r with
 |nil=>exact .inl ⟨rfl,rfl⟩
 | @cons a b as bs h t ih=>
  obtain⟨a1,a2⟩:=a;obtain⟨b1,b2⟩:=b;have e:a1=b1:=h.1;subst e;simp only[P0];cases z:(f == a1) with
  |true=>exact .inr ⟨a2,b2,rfl,rfl,h.2⟩
  |false=>exact ih
variable{c:Str}
set_option tactic.hygienic true in
theorem nP{x:PV}{fs:List (Str×PV)}(rh:RH C φ H h)(rv:RV C φ H x v)(e:fH x h=some (n,c,fs)):
  ∃a ca dx ks,x=.ref n/\v=.ref a/\φ[n]?=some a/\h[n]?=some (.ins c fs)/\C.cl c=some ca/\H a=some (.ins ca dx ks)/\RKv C φ H fs ks:=by
 unfold fH at e;cases x with
 |ref m=>
  obtain⟨a,rfl,ha⟩:=rv;dsimp only at e;split at e
  ·rename_i c' j3 q;cases e
   obtain⟨ca,dx,ks,h1,h2,h3⟩:=rh.at' _ a _ ha q;exact⟨a,ca,dx,ks,rfl,rfl,ha,q,h1,h2,h3⟩
  ·cases e
 |_=>cases e
def Da(C:MC)(f:Str):Prop:=∀c a,C.cl c=some a->Cls C.K a/\fY C.K a f
variable{h3:PH}{mv:Me}{value:Expr}{ir:Pos}
section
variable{o:Expr}{f:Str}
theorem MD{k:Nat}(hF:Da C f)(he:SE C k X e m)(hb:R1 e f X.env (eval e X.env)=eval e X.env:=by rfl):SE C k X (.Attribute e f pos) (mUn (dW f) m):=λc=>
 (IX (he c) hb).imp λσ H Q h=>by
  obtain⟨φ,δ,h,rh,re,p⟩:=h;refine⟨φ,δ,h,rh,re,(post.bind p).imp ?_⟩;rintro v H1 ⟨φ1,x,h1,p1,t1,aa,ab,q1⟩;unfold dW at q1;cases ei:fH x h1 with
  |none=>rw[ei]at q1;exact q1.elim
  |some z=>
   obtain⟨n,cn,fs⟩:=z;rw[ei]at q1;dsimp only at q1;obtain⟨a,ca,dx,ks,rfl,rfl,ha,hh,hc,hH,rk⟩:=nP aa ab ei;obtain⟨cl,na⟩:=hF cn ca hc;rcases lN rk f with⟨l1,_⟩|⟨y,u,l1,l2,ru⟩
   ·rw[l1]at q1;exact q1.elim
   ·rw[l1]at q1;exact⟨a,ca,dx,ks,u,rfl,hH,by rw[c.K];exact cl,by rw[c.K];exact na,l2,q1.val aa ru⟩
def eN(f:Str)(mo mv:Me):Ms:=λδ h=>(mv δ h).fl λy h1=>(mo δ h1).fl λx h2=>match kM f x y h2 with
 |some h3=>.nx δ h3
 |none=>.bad
set_option tactic.hygienic true in
theorem BR{k:Nat}{x y:PV}{u:V}{D:Ends}(c:Cxt C k X)(hF:Da C f)(rh:RH C φ H h)(re:RE C φ H δ σ)(rx:RV C φ H x v)(ry:RV C φ H y u)(es:kM f x y h=some h3)(q:bJ C φ H (.nx δ h3) D):
  ∃a ca dx ks,v=.ref a/\H a=some (.ins ca dx ks)/\Cls X.K ca/\fY X.K ca f/\ks.length<1000/\D.nx σ (upd H a (.ins ca dx (fX f u ks)))/\∃n cn fs,fH x h=some (n,cn,fs)/\C.cl cn=some ca:=by
 unfold kM at es;cases ei:fH x h with
 |none=>rw[ei]at es;cases es
 |some z=>
  obtain⟨n,cn,fs⟩:=z;rw[ei]at es;dsimp only at es;split at es
  ·rename_i hl;cases es
   obtain⟨a,ca,dx,ks,rfl,rfl,ha,hh,hc,hH,rk⟩:=nP rh rx ei;obtain⟨cl,na⟩:=hF cn ca hc;have kp:Kp H (upd H a (.ins ca dx (fX f u ks))):=Kp.upd (by rw[hH];trivial);refine⟨a,ca,dx,ks,rfl,hH,by rw[c.K];exact cl,by rw[c.K];exact na,by rw[<-Qi rk];exact hl,?_⟩;refine⟨q φ σ _ Po kp (rh.write ha (by rw[hH];trivial) ⟨ca,dx,_,hc,aI,?_⟩) (re.mono Po kp),n,cn,fs,rfl,hc⟩;exact(EN rk f ry).mono Po kp
  ·cases es
theorem ME{k:Nat}(hF:Da C f)(hv:SE C k X value mv)(ho:SE C k X o mo)(hs:SS value (some (.Attribute o f pos')) pos.line X.env=pure false:=by rfl):SSt C k X (.Assign [.Attribute o f pos'] value pos) (eN f mo mv):=λc=>
 (IY (ho c) (hv c) hs).imp λD σ H h=>by
  obtain⟨φ,δ,h,rh,re,p⟩:=h;refine⟨φ,δ,h,rh,re,(post.fl p).imp ?_⟩;rintro u H1 ⟨φ1,y,h1,p1,t1,aa,ab,q1⟩;refine⟨φ1,δ,h1,aa,re.mono p1 t1,(post.fl q1).imp ?_⟩;rintro v H2 ⟨φ2,x,h2,p2,t2,ag,bo,q2⟩;cases es:kM f x y h2 with
  |none=>rw[es]at q2;exact q2.elim
  |some h3=>
   rw[es]at q2;obtain⟨a,ca,dx,ks,g1,g2,g3,g4,g5,g6,_⟩:=BR c hF ag ((re.mono p1 t1).mono p2 t2) bo (ab.mono p2 t2) es q2;exact⟨a,ca,dx,ks,g1,g2,g3,g4,g5,g6⟩
def Ha(f:Str)(δ:Ev)(cn:Str)(x z y:PV)(h:PH):Fl:=match z,y with
 |.int i,.int j=>match fH x h with
  |some (_,c,_)=>if c=cn then(match kM f x (.int (i+j)) h with
   |some h3=>.nx δ h3
   |none=>.bad) else .bad
  |none=>.bad
 |_,_=>.bad
def BS(f:Str)(mo mv:Me):Ms:=λδ h=>(mo δ h).fl λx h1=>match fH x h1 with
 |some (_,cn,fs)=>match fs.lookup f with
  |some z=>(mv δ h1).fl λy h2=>Ha f δ cn x z y h2
  |none=>.bad
 |none=>.bad
set_option tactic.hygienic true in
theorem EO{k:Nat}(hF:Da C f)(ho:SE C k X o mo)(hv:SE C k X value mv):SSt C k X (.AugAssign (.Attribute o f ir) .Add value pos) (BS f mo mv):=λc=>
 (Co (ho c) (hv c) IZ).imp λD σ H h=>by
  obtain⟨φ,δ,h,rh,re,p⟩:=h;refine⟨φ,δ,h,rh,re,(post.fl p).imp ?_⟩;rintro v H1 ⟨φ1,x,h1,p1,t1,aa,ab,q1⟩;cases ei:fH x h1 with
  |none=>rw[ei]at q1;exact q1.elim
  |some z=>
   obtain⟨n,cn,fs⟩:=z;rw[ei]at q1;dsimp only at q1;obtain⟨a,ca,dx,ks,rfl,rfl,ha,hh,hc,hH,rk⟩:=nP aa ab ei;obtain⟨cl,na⟩:=hF cn ca hc;rcases lN rk f with⟨l1,_⟩|⟨zz,u,l1,l2,ru⟩
   ·rw[l1]at q1;exact q1.elim
   ·rw[l1]at q1;have ze:bJ C φ1 H1 ((mv δ h1).fl λy h2=>Ha f δ cn (.ref n) zz y h2) D:=q1;refine⟨a,ca,dx,ks,u,rfl,hH,by rw[c.K];exact cl,by rw[c.K];exact na,l2,φ1,δ,h1,aa,re.mono p1 t1,(post.fl ze).imp ?_⟩;rintro w H2 ⟨φ2,y,h2,p2,t2,ag,bo,q2⟩;unfold Ha at q2;cases zz with
    |int i=>
     cases y with
     |int j=>
      dsimp only at q2;cases ru
      cases bo
      cases ei2:fH (.ref n) h2 with
      |none=>rw[ei2]at q2;exact q2.elim
      |some z2=>
       obtain⟨n2,cn2,fs2⟩:=z2;rw[ei2]at q2;dsimp only at q2;split at q2
       ·rename_i ec;subst ec;cases es:kM f (.ref n) (.int (i+j)) h2 with
        |none=>rw[es]at q2;exact q2.elim
        |some h3=>
         rw[es]at q2;obtain⟨a2,ca2,OJ,zi,e1,OU,_,_,gi,nx,n3,cn3,fs3,e3,p8⟩:=BR c hF ag ((re.mono p1 t1).mono p2 t2) (ab.mono p2 t2) (show RV C φ2 H2 (.int (i+j)) (.int (i+j)) from rfl) es q2
         cases e1
         rw[ei2]at e3;cases e3
         rw[hc]at p8;cases p8
         exact⟨i,j,rfl,rfl,OJ,zi,OU,gi,nx⟩
       ·exact q2.elim
     |_=>exact q2.elim
    |_=>cases y <;> exact q2.elim
end
def zW(C:MC)(X:Cx)(k:Nat)(m:Str)(n:Nat)(tb:Str->Option Fn):Prop:=∀c a f,C.cl c=some a->tb c=some f->
 ∃g fd ps j,Cls C.K a/\Cn C.K a m g/\j<=k/\bV X.prog X.w C.K X.mg X.base CX0 j g fd ps (spM C (n+1) f)/\Binds C.K fd ps []
theorem K0{k:Nat}{m:Str}:zW C X k m n (λ_=>none):=λ_ _ _ _ h=>nomatch h
variable{tb:Str->Option Fn}
theorem Hb{k:Nat}{m:Str}{g:Addr}{f:Fn}(hc:C.cl c=some a)(hC:Cls C.K a)(me:Cn C.K a m g)(hj:j<=k)(G:bV X.prog X.w C.K X.mg X.base CX0 j g fd ps (spM C (n+1) f))(B:Binds C.K fd ps [])(r:zW C X k m n tb):
  zW C X k m n (λz=>if z=c then some f else tb z):=λc' a' f' h1 h2=>by
 have d8:(if c'=c then some f else tb c')=some f':=h2
 by_cases e:c'=c
 ·subst e;rw[hc]at h1;cases h1
  rw[if_pos rfl]at d8;cases d8
  exact⟨g,fd,ps,j,hC,me,hj,G,B⟩
 ·rw[if_neg e]at d8;exact r c' a' f' h1 d8
def fI(m:Str)(n:Nat)(tb:Str->Option Fn)(mo:Me)(ms:Ma):Me:=λδ h=>(mo δ h).bind λx h1=>match fH x h1 with
 |some (_,c,fs)=>match tb c,fs.lookup m with
  |some f,none=>(ms δ h1).bind λps h2=>if ps.length=n then f (x::ps) h2 else .bad
  |_,_=>.bad
 |none=>.bad
theorem K1{k:Nat}{o:Expr}{m:Str}{pl:Sem Bool}(hM:zW C X k m n tb)(ho:SE C k X o mo)(ha:SA C k X (e::es) ms)(f7:PJ (e::es) X.env=(false,eval e X.env)::PJ es X.env:=by rfl)(bw:(backTo pos (PJ es X.env)).any (·.1)=false:=by rfl)(ht:eval (.Call (.Attribute o m apos) (e::es) [] pos) X.env=(do
   let ov <-eval o X.env
   standAt apos.atName
   let (f,first) <-holding [ov] (getMethod ov m pl)
   callWith pos f first (backTo pos (PJ (e::es) X.env)) (backToKw pos (keywordEach [] X.env))):=by rfl):
  SE C k X (.Call (.Attribute o m apos) (e::es) [] pos) (fI m n tb mo ms):=λc pins s σ H Q I h=>by
 obtain⟨φ,δ,h,rh,re,p⟩:=h
 refine PySem.W.methodCall_KW (pl:=pl) (thn (ho c pins s σ H _ I ⟨φ,δ,h,rh,re,post.bind p⟩) λu s1 hh=>?_) ht
 obtain⟨v,H1,I1,ru,φ1,x,h1,p1,t1,aa,ab,q1⟩:=hh
 cases ei:fH x h1 with
 |none=>rw[ei]at q1;exact q1.elim
 |some z=>
  obtain⟨n',cn,fs⟩:=z
  rw[ei]at q1
  dsimp only at q1
  obtain⟨a,ca,dx,ks,rfl,rfl,hφ,hh,hc,hH,rk⟩:=nP aa ab ei
  cases et:tb cn with
  |none=>rw[et]at q1;exact q1.elim
  |some f=>
   rw[et]at q1
   rcases lN rk m with⟨l1,l2⟩|⟨y,u',l1,_⟩
   ·rw[l1]at q1
    dsimp only at q1
    obtain⟨g,fd,ps,j,cl,me,hj,F,bd⟩:=hM cn ca f hc et
    have yo:Cls X.K ca:=by rw[c.K];exact cl
    have wj:Cn X.K ca m g:=by rw[c.K];exact me
    have F':bV X.prog X.w X.K X.mg X.base CX0 j g fd ps (spM C (n+1) f):=by rw[c.K];exact F
    have ng:Binds X.K fd ps []:=by rw[c.K];exact bd
    cases ru
    refine Am I1 hH yo wj l2 ?_
    refine PySem.W.callWith_K (first:=[.ref a]) (h₀:=X.base) I.ok.mod.kin wj.kp (thn (ha c pos pins s1 σ H1 _ I1 ⟨φ1,δ,h1,aa,re.mono p1 t1,postA.bind q1⟩) λus s2 h2=>?_) f7 bw
    obtain⟨vs,H2,I2,r2,φ2,zs,h3,p2,t2,ag,bo,q2⟩:=h2
    obtain⟨hl,q2⟩:=q2.ite
    refine⟨I2.kIn,?_⟩
    exact Aq (us:=.ref a::us) (vs:=.ref a::vs) F' (c.room.mono hj) ng .nil yN I2 (.cons rfl r2) ⟨φ2,h3,.ref n'::zs,ag,⟨⟨a,rfl,dQ p2 hφ⟩,(by show RVs C φ2 H2 zs (vs++[]);rw[RQ];exact bo)⟩,by simp[hl],q2⟩
   ·rw[l1]at q1;exact q1.elim
def iT(cn:Str)(n:Nat)(f:Fn)(ms:Ma):Me:=λδ h=>(ms δ h).bind λps h1=>if ps.length=n then(f (.ref h1.length::ps) (h1++[.ins cn []])).bind λv h2=>(match v with
 |.non=>.ok (.ref h1.length) h2
 |_=>.bad) else .bad
variable{ca:Addr}{cn:Str}{fn:Fn}{zs:List PV}
theorem BU{Q:VK}(hc:C.cl cn=some ca)(rh:RH C φ H h)(rv:RVs C φ H zs vs)(q:post C φ H (if zs.length=n then(fn (.ref h.length::zs) (h++[.ins cn []])).bind λv h2=>(match v with|.non=>Rs.ok (.ref h.length) h2|_=>.bad) else .bad) Q):
  ∀y dx,H y=none->H dx=none->dx≠y->spM C (n+1) fn (.ref y::(vs++[])) (upd (upd H dx (.own y)) y (.ins ca dx [])) (λv H2=>v=.non/\Q (.ref y) H2) E0:=λy dx hy hd ne=>by
 obtain⟨hl,q⟩:=q.ite;have jt:(upd H dx (.own y)) y=none:=by rw[aE (Ri ne)];exact hy
 have k1:Kp H (upd H dx (.own y)):=Kp.new hd;have k2:Kp (upd H dx (.own y)) (upd (upd H dx (.own y)) y (.ins ca dx [])):=Kp.new jt;have ag:RH C (φ++[y]) (upd (upd H dx (.own y)) y (.ins ca dx [])) (h++[.ins cn []]):=(rh.aside hd).new jt ⟨ca,dx,[],hc,aI,.nil⟩;have wt:RV C (φ++[y]) (upd (upd H dx (.own y)) y (.ins ca dx [])) (.ref h.length) (.ref y):=⟨y,rfl,by rw[<-rh.len];simp⟩;refine⟨φ++[y],h++[.ins cn []],.ref h.length::zs,ag,⟨wt,by rw[RQ];exact rv.mono (Qc _ _) (k1.trans k2)⟩,by simp[hl],?_⟩;refine(post.bind (post.weak (Qc _ [y]) (k1.trans k2) q)).imp ?_;rintro v H2 ⟨φ2,pv,h2,p2,t2,b8,rv3,q3⟩;cases pv with
 |non=>cases rv3;exact⟨rfl,q3.val b8 (wt.mono p2 t2)⟩
 |_=>exact q3.elim
theorem K2{k:Nat}{f:Addr}{p:Pos}(hc:C.cl cn=some ca)(M:Mk C.K ca f)(F:bV X.prog X.w C.K X.mg X.base CX0 j f fd ps (spM C (n+1) fn))(hm:X.mg x=some (.ref ca))(bd:Binds C.K fd ps [])(ha:SA C k X (e::es) ms)(hj:j+1<=k:=by decide)(hg:Gl X x:=by rfl)(bq:(x == ("__debug__" : Str))=false:=by decide)(he:PJ (e::es) X.env=(false,eval e X.env)::PJ es X.env:=by rfl)(bw:(backTo pos (PJ es X.env)).any (·.1)=false:=by rfl):
  SE C k X (.Call (.Name x p) (e::es) [] pos) (iT cn n fn ms):=λc=>by
 have M':Mk X.K ca f:=by rw[c.K];exact M
 have F':bV X.prog X.w X.K X.mg X.base CX0 j f fd ps (spM C (n+1) fn):=by rw[c.K];exact F
 have ng:Binds X.K fd ps []:=by rw[c.K];exact bd
 refine(Gf M' F' (c.room.mono hj) hg hm ng .nil yN (ha c) bq he bw).imp λσ H Q h=>?_;obtain⟨φ,δ,h,rh,re,po⟩:=h;refine⟨φ,δ,h,rh,re,(postA.bind po).imp ?_⟩;rintro vs H1 ⟨φ1,zs,h1,p1,t1,aa,ab,q1⟩;exact BU hc aa ab q1
theorem Hc{k:Nat}{f:Addr}{p:Pos}(hc:C.cl cn=some ca)(M:Mk C.K ca f)(F:bV X.prog X.w C.K X.mg X.base CX0 j f fd ps (spM C (0+1) fn))(hm:X.mg x=some (.ref ca))(bd:Binds C.K fd ps [])(hj:j+1<=k:=by decide)(hg:Gl X x:=by rfl)(bq:(x == ("__debug__" : Str))=false:=by decide):SE C k X (.Call (.Name x p) [] [] pos) (iT cn 0 fn aC):=λc=>by
 have M':Mk X.K ca f:=by rw[c.K];exact M
 have F':bV X.prog X.w X.K X.mg X.base CX0 j f fd ps (spM C (0+1) fn):=by rw[c.K];exact F
 have ng:Binds X.K fd ps []:=by rw[c.K];exact bd
 refine(DM M' F' (c.room.mono hj) hg hm ng .nil yN bq).imp λσ H Q h=>?_;obtain⟨φ,δ,h,rh,re,po⟩:=h;exact BU (zs:=[]) hc rh trivial po
def eW(x y v:PV)(h:PH):Option PH:=match x,y with
 |.ref n,.int i=>match cM h n with
  |some xs=>match ixN xs.length i with
   |some j=>some (h.set n (.lst (xs.set j v)))
   |none=>none
  |none=>oR x y v h
 |_,_=>oR x y v h
def eO(mv mo mi:Me):Ms:=λδ h=>(mv δ h).fl λv h1=>(mo δ h1).fl λx h2=>(mi δ h2).fl λy h3=>match eW x y v h3 with
 |some h4=>.nx δ h4
 |none=>.bad
set_option tactic.hygienic true in
theorem AZ{k:Nat}{h':PH}{pv:PV}{x:V}(c:Cxt C k X)(rh:RH C φ H h)(rx:RV C φ H px x)(ry:RV C φ H py y)(rv:RV C φ H pv v)(e:eW px py pv h=some h'){Q:Unit->Shared->Prop}(I:Inv X pins σ H s)(k0:RelV x xu)(cf:RelV y yu)(jq:RelV v vu)(q:∀s' H',Inv X pins σ H' s'->Kp H H'->RH C φ H' h'->Q () s'):wpAny (model X.prog X.w) X.A (setItem xu yu vu) Q X.xe s:=by
 unfold eW at e;split at e
 ·rename_i n i;split at e
  ·rename_i xs el;split at e
   ·rename_i j ej;cases e
    obtain⟨a,rfl,ha⟩:=rx;cases ry
    obtain⟨ws,hH,cw⟩:=rh.at' n a _ ha (fD el);refine thn (set_list pins s σ H (.ref a) (.int i) v xu yu vu (λH'=>H'=upd H a (.lst (ws.set j v))) I k0 cf jq ⟨a,ws,i,j,rfl,rfl,hH,by rw[<-cw.length];exact ej,rfl⟩) ?_;rintro _ s' ⟨H',I',rfl⟩;refine q s' _ I' (Kp.lst hH) (rh.write ha (by rw[hH];trivial) ⟨_,aI,(RVs.set rv j cw).mono Po (Kp.lst hH)⟩)
   ·cases e
  ·exact vE c rh rx ry rv e I k0 cf jq q
 ·exact vE c rh rx ry rv e I k0 cf jq q
theorem K3{k:Nat}{o i:Expr}{mi:Me}(hv:SE C k X value mv)(ho:SE C k X o mo)(hi:SE C k X i mi)(hs:SS value (some (.Subscript o i pos')) pos.line X.env=pure false:=by rfl):
  SSt C k X (.Assign [.Subscript o i pos'] value pos) (eO mv mo mi):=λc pins s σ H D I ⟨φ,δ,h,rh,re,p⟩=>by
 refine wpAny_Assign_Subscript (thn (hv c pins s σ H _ I ⟨φ,δ,h,rh,re,post.fl p⟩) ?_) hs;rintro vu s1 ⟨v,H1,I1,jq,φ1,pv,h1,p1,t1,aa,ab,q1⟩;refine thn (ho c pins s1 σ H1 _ I1 ⟨φ1,δ,h1,aa,re.mono p1 t1,post.fl q1⟩) ?_;rintro xu s2 ⟨x,H2,I2,k0,φ2,px,h2,p2,t2,ag,bo,q2⟩;refine thn (hi c pins s2 σ H2 _ I2 ⟨φ2,δ,h2,ag,(re.mono p1 t1).mono p2 t2,post.fl q2⟩) ?_;rintro yu s3 ⟨y,H3,I3,cf,φ3,py,h3,p3,t3,b8,rv3,q3⟩;cases e:eW px py pv h3 with
 |none=>rw[e]at q3;exact q3.elim
 |some h4=>
  rw[e]at q3;exact AZ c b8 (bo.mono p3 t3) rv3 ((ab.mono p2 t2).mono p3 t3) e I3 k0 cf jq λs' H' I' kp bg=>⟨σ,H',I',q3 φ3 σ H' Po kp bg ((((re.mono p1 t1).mono p2 t2).mono p3 t3).mono Po kp)⟩
theorem nQ{fs:List (Str×PV)}(e:h[n]?=some (.ins c fs)):fH (.ref n) h=some (n,c,fs):=by simp[fH,e]
theorem iI{f:Str}{fs:List (Str×PV)}(e:h[n]?=some (.ins c fs))(l:fs.lookup f=some p):dW f (.ref n) h=.ok p h:=by simp[dW,nQ e,l]
theorem gO{f:Str}{fs:List (Str×PV)}(e:h[n]?=some (.ins c fs))(l:fs.length<1000):kM f (.ref n) p h=some (h.set n (.ins c (uC f p fs))):=by simp[kM,nQ e,l]
@[simp]theorem ER{E:FE}{f:Str}:(eN f mo mv δ h).W E=(mv δ h).W λy h1=>(mo δ h1).W λx h2=>∃h3,kM f x y h2=some h3/\E.nx δ h3:=by
 unfold eN;rw[D0]
 congr 1
 funext y h1
 rw[D0]
 congr 1
 funext x h2
 cases e:kM f x y h2 <;> simp
@[simp]theorem zX{f:Fn}:iT cn n f ms δ h=(ms δ h).bind λps h1=>if ps.length=n then(f (.ref h1.length::ps) (h1++[.ins cn []])).bind λv h2=>(match v with|.non=>.ok (.ref h1.length) h2|_=>.bad) else .bad:=(rfl)
variable{mm:Str}
theorem cH{k:Nat}{fs:List (Str×PV)}{f:Fn}(e:mo δ h=.ok (.ref k) h1)(g:h1[k]?=some (.ins c fs))(t:tb c=some f)(l:fs.lookup mm=none):
  fI mm n tb mo ms δ h=(ms δ h1).bind λps h2=>if ps.length=n then f (.ref k::ps) h2 else .bad:=by
 unfold fI;rw[e,Rs.bind_ok,nQ g];simp only[t,l]
@[simp]theorem Oe{E:FE}{mi:Me}:(eO mv mo mi δ h).W E=(mv δ h).W λv h1=>(mo δ h1).W λx h2=>(mi δ h2).W λy h3=>∃h4,eW x y v h3=some h4/\E.nx δ h4:=by
 unfold eO;rw[D0]
 congr 1
 funext v h1
 rw[D0]
 congr 1
 funext x h2
 rw[D0]
 congr 1
 funext y h3
 cases e:eW x y v h3 <;> simp
theorem boot_reversed:RB "reversed" = some (.type "reversed"):=by first|rfl|decide +kernel|kernel_rfl
section
variable{v:Addr}{es:Array QX}
theorem Dc(hT:s.TypeIs (.ref dc) "dict")(hd:(dc == Qm)=false)(h1:s.heap.get? dc=some oc)(h2:oc.data=.dict es ep)(q:Q (.ref s.heap.objs.size) { s with heap:=s.heap.push { cls:=.type "dict_keyiterator",data:=.fields #[.ref dc,.int 0 0,.int es.size 0,.int ep 0] } }):wpAny (model prog w) A (pyIter (.ref dc)) Q E s:=by
 refine Sq hT F.slot_dict_iter (Qf F.slot_dict_iter hT F.entry_dict_iter ?_ (F.args_dict_iter_1 _));unfold Builtin.«dict.__iter__»;refine Pf ?_;unfold Builtin.Dict.dictSlotNone;refine Pf (QZ hT ?_)
 show wpAny _ _ (pure (P7 dc)) _ _ s
 refine Ph ?_
 show wpAny _ _ (QH dc >>= _) _ _ s
 unfold QH;rw[if_neg (by rw[hd];exact Px)];refine Pf (Ph ?_);refine Pf (Qg h1 h2 ?_);refine Pf (Q8 h1 h2 ?_);refine Pf (PY (Ph ⟨_,rfl,"dict_keyiterator",_,⟨_,Pr _ rfl,rfl⟩,QC.lookup,?_⟩));simpa[rawInt] using q
theorem zY{Q:Option Value->Shared->Prop}(hI:s.heap.IsKeyIter it dc i es.size ep)(h1:s.heap.get? dc=some oc)(h2:oc.data=.dict es ep)(ba:i<es.size)(q:∀h',h'.IsKeyIter it dc (i+1) es.size ep->QN it s.heap h'->Q (some es[i].key) { s with heap:=h' }):wpAny (model prog w) A (pyNext (.ref it)) Q E s:=by
 obtain⟨oi,g1,g2,g3⟩:=id hI;unfold pyNext;refine Pf (Sr (Qr (name:=PM "__next__") hI.typeIs QC (Qf QC hI.typeIs F.entry_dict_keyiterator_next ?_ (F.args_dict_keyiterator_next_1 _))));refine Pf (Ph (Pf (Pf ?_)))
 first|refine Pf (Rn hI.typeIs (Ph ?_))|refine Pf (RX hI.typeIs (Ph ?_))
 refine Pf (Sz g1 g3 ?_);rw[show P9 "dict_keyiterator" = false by decide];simp only[Qk,if_false]
 show wpAny _ _ (if(P7 dc == PU)=true then _ else _) _ _ s
 rw[if_neg (show ¬ ((P7 dc == PU)=true) from Px)]
 refine Pf (Ph (Pf (Qg h1 h2 ?_)));rw[if_neg (show ¬ _ by simp)];refine Pf (Ph (Pf (Q8 h1 h2 ?_)));rw[if_neg (show ¬ _ by simp)];refine Ph ?_;simp only[show ¬ ((i:Int)<0) by omega,if_false,Rf,QT ba];refine Pf ?_
 first|refine Pf (Rn hI.typeIs (Ph ?_))|refine Pf (RX hI.typeIs (Ph ?_))
 refine Pf (wpAny_isOneOf_keyiter hI.typeIs (show wpAny _ _ (setField (.ref it) 1 (rawInt ((i:Int)+1)) >>= _) _ _ s from Pf (R9 g1 g3 (by simp) ?_)))
 have ip:(s.heap.update it (Rr (·.setIfInBounds 1 (rawInt ((i:Int)+1))))).IsKeyIter it dc (i+1) es.size ep:=
  ⟨_,QF _ g1 (Sm (RG g3 _)),(Obj.cls_mapFields ..).trans g2,by rw[RG g3];simp[rawInt]⟩
 have jw:({ s with heap:=s.heap.update it (Rr (·.setIfInBounds 1 (rawInt ((i:Int)+1)))) }:Shared).TypeIs (.ref it) "dict_keyiterator" := ip.typeIs;refine Pf (Rq (Pf (wpAny_isOneOf_keyiter jw ?_)))
 show wpAny _ _ (pure es[i].key) _ _ _
 exact Ph (Ph ⟨_,rfl,Ph (q _ ip (PR ..))⟩)
theorem zZ{Q:Option Value->Shared->Prop}(hh:A.handled=none)(hI:s.heap.IsKeyIter it dc i es.size ep)(h1:s.heap.get? dc=some oc)(h2:oc.data=.dict es ep)(jc:es.size<=i)(q:∀h',Heap.ExtBut it s.heap h'->Q none { s with heap:=h' }):wpAny (model prog w) A (pyNext (.ref it)) Q E s:=by
 obtain⟨oi,g1,g2,g3⟩:=id hI;unfold pyNext;refine Pf (Sr (Qr (name:=PM "__next__") hI.typeIs QC (Qf QC hI.typeIs F.entry_dict_keyiterator_next ?_ (F.args_dict_keyiterator_next_1 _))));refine Pf (Ph (Pf (Pf ?_)))
 first|refine Pf (Rn hI.typeIs (Ph ?_))|refine Pf (RX hI.typeIs (Ph ?_))
 refine Pf (Sz g1 g3 ?_);rw[show P9 "dict_keyiterator" = false by decide];simp only[Qk,if_false]
 show wpAny _ _ (if(P7 dc == PU)=true then _ else _) _ _ s
 rw[if_neg (show ¬ ((P7 dc == PU)=true) from Px)]
 refine Pf (Ph (Pf (Qg h1 h2 ?_)));rw[if_neg (show ¬ _ by simp)];refine Pf (Ph (Pf (Q8 h1 h2 ?_)));rw[if_neg (show ¬ _ by simp)];refine Ph ?_;simp only[show ¬ ((i:Int)<0) by omega,if_false,Rf,QA jc];refine Pf ?_
 first|refine Pf (Rn hI.typeIs (Ph ?_))|refine Pf (RX hI.typeIs (Ph ?_))
 refine(show wpAny _ _ (setField (.ref it) 0 .none >>= _) _ _ s from Pf (R9 g1 g3 (by simp) ?_))
 refine(show wpAny _ _ (newExc (.type "StopIteration") [] >>= _) _ _ _ from Pf ?_);simp only[newExc,newTuple]
 refine Pf (PY (Pf (m:=SB _ _) (wpAny_of_eq (a:=PU) (by first|rfl|(simp only[SB];rfl)) (PY ?_ (by size_fits)))) (by size_fits))
 simp only[raiseNew];refine Pf (wpAny_handled ?_);rw[show A.in1.handled=none from hh]
 refine Pf (Ph (wpAny_throw ?_));refine Pf (wpAny_isInstance (T:="StopIteration") (b:=true) ⟨_,Pr _ rfl,rfl⟩ isSubtype_stop ?_);exact Ph (q _ (((PR ..).extBut.push _).push _))
theorem B0(hh:A.handled=none)(I dc:Addr)(ow:dc≠I)(oc:Obj)(es:Array QX)(ep:Nat)(h2:oc.data=.dict es ep):
  Walks prog w A I [I,dc] [I] es.size (λi v=>∃e,es[i]?=some e/\v=e.key) (λi h=>h.IsKeyIter I dc i es.size ep/\h.get? dc=some oc) where
 sub:=λb hb=>by rw[Pz.mp hb];exact Pm
 frame:=λ_ _ _ st hk=>⟨let ⟨o,e,r⟩:=st.1;⟨o,hk I Pm o e,r⟩,hk dc (Pj _ Pm) _ st.2⟩
 item:=λi s Q E hi st hQ=>zY st.1 st.2 h2 hi λh' j6 dj=>hQ _ h' s.toks ⟨es[i],by simp[hi],rfl⟩ ⟨j6,(dj.2 dc ow).trans st.2⟩ λb o hb e=>(dj.2 b λz=>hb (by rw[z];exact Pm)).trans e
 done:=λs Q E st hQ=>zZ hh st.1 st.2 h2 (Pk _) λh' gp=>hQ h' s.toks λb o hb e=>gp b o (λz=>hb (by rw[z];exact Pm)) e
 self:=λ_ _ _ _ st hQ=>wpAny_pyIter_keyiter st.1 hQ
end
theorem B1{es:Array QX}(h:ItemsOf (λi v=>∃e,es[i]?=some e/\v=e.key) acc es.size):acc.toList=es.toList.map (·.key):=by
 apply Rt;intro i;rw[Pu,RJ,RJ]
 by_cases hi:i<acc.size
 ·have e1:acc[i]?=some acc[i]:=by simp[hi]
  obtain⟨e,h1,h2⟩:=h.2 i _ e1;rw[e1,h1,h2];rfl
 ·have au:¬ i<es.size:=by rw[<-h.1];exact hi
  rw[QA (by omega),QA (by omega)];rfl
section
variable{k:Nat}{o:Obj}{its:Array Value}{ps:List PV}
def Ik:PV->Option V
 |.non=>some .non
 |.bl b=>some (.bl b)
 |.int i=>some (.int i)
 |.str z=>some (.str z)
 |_=>none
def xF:List PV->Option (List V)
 |[]=>some []
 |p::r=>match Ik p,xF r with
  |some v,some vs=>some (v::vs)
  |_,_=>none
theorem Hd(e:Ik p=some v):RV C φ H p v:=by
 cases p <;> first|(cases e;rfl)|cases e
set_option tactic.hygienic true in
theorem A0{φ:List Addr}{H:Hp}:∀{ps:List PV}{vs:List V},xF ps=some vs->RVs C φ H ps vs
 |[],vs,e=>by cases e;trivial
 |p::ps,vs,e=>by
  unfold xF at e;split at e
  ·rename_i v ws e1 e2;cases e
   exact⟨Hd e1,A0 e2⟩
  ·cases e
def MF(K:Pi)(a:Addr)(ps:List PV):Prop:=∃(o:Obj)(its:Array Value)(n:Nat)(vs:List V),K.lookup a=some o/\o.cls=.type "tuple" /\ o.data=.seq its n/\its.size<=Pt/\aJ vs its.toList/\o.dict=none/\xF ps=some vs
theorem K4(hm:X.mg x=some (.ref a))(g:MF C.K a ps)(hg:Gl X x:=by rfl)(hd:(x == ("__debug__" : Str))=false:=by decide):SE C k X (.Name x pos) (mC (.tup ps)):=λc=>
 (Bm (v:=.ref a) hg hm rfl hd).imp λσ H Q h=>by
  obtain⟨φ,δ,h,rh,re,p⟩:=h;obtain⟨o,its,n,vs,g1,g2,g3,g4,g5,g6,g7⟩:=g;exact p φ (.ref a) H Po (Kp.refl _) rh ⟨a,vs,rfl,.inr ⟨o,its,n,g1,g2,g3,g4,g5,g6⟩,A0 g7⟩
end
theorem BV(e:aT h n=some kvs)(hk:(PV.tup xs).ky 6=true)(hl:kvs.length<16777216):eW (.ref n) (.tup xs) z h=some (h.set n (.dD (cR kvs (.tup xs) z))):=by
 show oR (.ref n) (.tup xs) z h=_
 exact AY e hk hl
theorem BW{kvs:List (Key×PV)}(e:h[n]?=some (.dK kvs))(hl:kvs.length<16777216):eW (.ref n) (.str x) z h=some (h.set n (.dK (cR kvs (.inr x) z))):=by
 show oR (.ref n) (.str x) z h=_
 exact BP e hl
def ES:HO->Prop
 |.tup _=>False
 |.own _=>False
 |.tbl _=>False
 |_=>True
theorem Inv.swap{d:Addr}{u u':HO}(I:Inv X pins σ H s)(hd:H d=some u)(hu:ES u)(hz:∀o z,X.H₀ d≠some (.frz o z))(new:aZ X.prog X.w (upd H d u') s.heap d u'):Inv X pins σ (upd H d u') s:=by
 have nn:∀b,H b=none->b≠d:=λb n z=>by rw[z,hd]at n;cases n
 have nt:∀b xs,H b=some (.tup xs)->b≠d:=λb xs n z=>by rw[z,hd]at n;cases n;exact hu
 have no:∀b y,H b=some (.own y)->b≠d:=λb xs n z=>by rw[z,hd]at n;cases n;exact hu
 have nb:∀b y,H b=some (.tbl y)->b≠d:=λb xs n z=>by rw[z,hd]at n;cases n;exact hu
 refine⟨I.ok,I.os,I.bare,⟨I.base.keep,I.base.slot,λb o e n hx=>?_,I.base.there,λb xs e=>?_,λb o xs e=>?_,λb ps e=>?_⟩,I.loc,I.cell,?_,λx c e=>?_,λp hp=>?_,λb o e=>?_,I.len⟩
 ·have:=I.base.free b o e n hx;rw[aE (nn b this)];exact this
 ·have:=I.base.tups b xs e;rw[aE (nt b xs this)];exact this
 ·have:=I.base.frzs b o xs e;have ne:b≠d:=λz=>hz o xs (z▸e);rw[aE ne];exact this
 ·obtain⟨m,e1⟩:=I.base.tbls b ps e;exact⟨m,by rw[aE (nb b _ e1)];exact e1⟩
 ·rw[aE (nn _ I.free)];exact I.free
 ·have:=I.freeC x c e;rw[aE (nn _ this)];exact this
 ·obtain⟨e,n,r⟩:=I.pin p hp;exact⟨e,by rw[aE (nn _ n)];exact n,r⟩
 ·by_cases hb:b=d
  ·subst hb;rw[aI]at e;cases e;exact new
  ·rw[aE hb]at e;exact(I.hok b o e).stay (λc v _ q=>q) (λc q=>by rw[aE (no c b q)];exact q) λc xs q=>by rw[aE (nt c xs q)];exact q
theorem Inv.nofrz{d:Addr}(I:Inv X pins σ H s)(hd:∀o z,H d≠some (.frz o z)):∀o z,X.H₀ d≠some (.frz o z):=λo z e=>hd o z (I.base.frzs d o z e)
theorem Inv.freeze{d:Addr}{u:HO}(I:Inv X pins σ H s)(hd:H d=some u)(hu:ES u)(hf:∀o z,u≠.frz o z)(ho:s.heap.get? d=some oc):Inv X pins σ (upd H d (.frz oc u)) s:=by
 have nt:∀b xs,H b=some (.tup xs)->b≠d:=λb xs n z=>by rw[z,hd]at n;cases n;exact hu
 have no:∀b y,H b=some (.own y)->b≠d:=λb xs n z=>by rw[z,hd]at n;cases n;exact hu
 refine I.swap hd hu (I.nofrz λo z e=>?_) ⟨ho,(I.hok d u hd).stay (λc v _ q=>q) (λc q=>by rw[aE (no c d q)];exact q) λc xs q=>by rw[aE (nt c xs q)];exact q⟩;rw[hd]at e;exact hf o z (PP e)
theorem Inv.thaw{d:Addr}{u:HO}(I:Inv X pins σ H s)(hd:H d=some (.frz oc u))(hz:∀o z,X.H₀ d≠some (.frz o z)):Inv X pins σ (upd H d u) s:=by
 have nt:∀b xs,H b=some (.tup xs)->b≠d:=λb xs n z=>by rw[z,hd]at n;cases n
 have no:∀b y,H b=some (.own y)->b≠d:=λb xs n z=>by rw[z,hd]at n;cases n
 obtain⟨_,q⟩:=I.hok d _ hd;exact I.swap hd trivial hz (q.stay (λc v _ q=>q) (λc q=>by rw[aE (no c d q)];exact q) λc xs q=>by rw[aE (nt c xs q)];exact q)
def ItI(dc:Addr)(oc:Obj)(u:HO)(ks:List (V×V)):It:=
 ⟨λi H=>H dc=some (.frz oc u)/\i<ks.length,λi H x H'=>∃t kv,H t=none/\ks[i]?=some kv/\x=.ref t/\H'=upd H t (.tup [kv.1,kv.2]),λi H=>H dc=some (.frz oc u)/\ks.length<=i⟩
def ItK(dc:Addr)(oc:Obj)(u:HO)(ks:List V):It:=
 ⟨λi H=>H dc=some (.frz oc u)/\i<ks.length,λi H x H'=>H'=H/\ks[i]?=some x,λi H=>H dc=some (.frz oc u)/\ks.length<=i⟩
variable{elts:List Expr}{x1:Nat}
theorem B2(it dc:Addr)(oc:Obj)(u:HO)(es:Array QX)(ep:Nat)(h2:oc.data=.dict es ep)(ks:List (V×V))(hl:ks.length=es.size)(hk:∀(i:Nat)(hi:i<es.size),∃kv,ks[i]?=some kv/\RelV kv.1 es[i].key/\RelV kv.2 es[i].val):Turn P w K (.Tuple elts x1 pos) (ItI dc oc u ks) [it] it (λi h=>∃ok ov,IsItemIter h it dc i es.size ep ok ov) where
 mem:=by simp
 obj:=λi h ⟨ok,ov,st⟩ b hb=>by
  have e:b=it:=by simpa using hb
  subst e;exact⟨_,st,λv z=>by cases z⟩
 keep:=λi h h' ⟨ok,ov,st⟩ k=>⟨ok,ov,k it (by simp) _ st⟩
 item:=by
  intro X hP hw hK hc i pins s σ H E I hf ⟨ok,ov,st⟩ ⟨hg,hi⟩;subst hP hw hK;have au:i<es.size:=by omega
  obtain⟨kv,gu,r1,r2⟩:=hk i au;obtain⟨f0,f1,f2,f3,f4,f5⟩:=hf it (by simp);have ig:s.heap.get? dc=some oc:=(I.hok dc _ hg).1;refine next_item st ig h2 au λh' out gt kp=>⟨_,rfl,?_⟩;refine wpAny_letOwnedTupleGo_items (s:={ s with heap:=h' }) out λjj hI same=>?_;have fr:H s.heap.objs.size=none:=I.hok.fresh (Pk _);have ne:s.heap.objs.size≠it:=SQ (Py st);have ym:jj.get? s.heap.objs.size=some { cls:=.type "tuple",data:=.seq #[es[i].key,es[i].val] }:=(same.2 _ ne).trans gt;have nh:∀(b:Addr)(o:Obj),b≠it->s.heap.get? b=some o->jj.get? b=some o:=λb o hb e=>(same.2 b hb).trans (kp b o hb e);have n6:∀b u,H b=some u->b≠it:=λb u e z=>by rw[z,f0]at e;cases e
  have oa:∀b u,H b=some u->b≠s.heap.objs.size:=λb u e z=>by rw[z,fr]at e;cases e
  refine⟨.ref s.heap.objs.size,upd H s.heap.objs.size (.tup [kv.1,kv.2]),?_,rfl,⟨_,kv,fr,gu,rfl,rfl⟩,⟨_,_,hI⟩,λb hb=>?_⟩
  ·refine Inv.step (s:=s) (h':=jj) (H:=H) (g':=s.gens) (d':=s.drawn) (t':=s.toks) (ch:=[it]) I (λb hb=>?_) (λb o _ _ hc e _=>nh b o (λz=>hc (by simp[z])) e) (λb o _ _ hc e _=>⟨o.slots,nh b o (λz=>hc (by simp[z])) e⟩) (λb o hc e n=>?_)
    (λb o hc e=>⟨o,nh b o (λz=>hc (by simp[z])) e⟩) (λb xs e=>by rw[aE (oa _ _ e)];exact e) (λb o u e=>by rw[aE (oa _ _ e)];exact e) (λb ps e=>⟨#[],by rw[aE (oa _ _ e),e];simp⟩) (λm hm=>?_) (λb u e=>?_) I.bare
   ·have e:b=it:=by simpa using hb
    subst e;exact⟨f3,f1,f4,f5⟩
   ·rw[aE (Qd (Py e))];exact n
   ·obtain⟨o,es,ep,ho,r⟩:=hm;exact⟨o,es,ep,nh _ o (Ri f1) ho,r⟩
   ·by_cases hb:b=s.heap.objs.size
    ·subst hb;rw[aI]at e;cases e
     exact⟨by show 2<=Pt;rw[iC];decide,[es[i].key,es[i].val],.cons r1 (.cons r2 .nil),_,ym,rfl,⟨_,rfl⟩,rfl⟩
    ·rw[aE hb]at e;refine(I.hok b u e).stay (λc v hc q=>nh c v ?_ q) (λc q=>by rw[aE (oa _ _ q)];exact q) λc xs q=>by rw[aE (oa _ _ q)];exact q
     rcases hc with z|z
     ·rw[z];exact n6 b u e
     ·exact n6 c _ z
  ·have e:b=it:=by simpa using hb
   subst e;rw[aE (Ri ne)];exact f0
 done:=by
  intro X hP hw hK hc i pins s σ H E I hf ⟨ok,ov,st⟩ ⟨hg,hi⟩;subst hP hw hK;obtain⟨f0,f1,f2,f3,f4,f5⟩:=hf it (by simp);have ig:s.heap.get? dc=some oc:=(I.hok dc _ hg).1;exact CK (I.ok.hd hc) st ig h2 (by omega) λh' eb=>⟨rfl,I.turned (t':=s.toks) (λb o hb e=>eb b o hb e) f0 f1 f3 f4 f5⟩
 self:=λ_ _ _ _ _ ⟨_,_,st⟩ h=>AC st h
theorem De(it dc:Addr)(oc:Obj)(u:HO)(es:Array QX)(ep:Nat)(h2:oc.data=.dict es ep)(ks:List V)(hl:ks.length=es.size)(hk:∀(i:Nat)(hi:i<es.size),∃kv,ks[i]?=some kv/\RelV kv es[i].key):Turn P w K tg (ItK dc oc u ks) [it] it (λi h=>h.IsKeyIter it dc i es.size ep) where
 mem:=by simp
 obj:=λi h st b hb=>by
  have e:b=it:=by simpa using hb
  subst e;obtain⟨o,e,c,d⟩:=st;exact⟨o,e,λv z=>by rw[d]at z;cases z⟩
 keep:=λi h h' st k=>st.at λo e=>k it (by simp) o e
 item:=by
  intro X hP hw hK hc i pins s σ H E I hf st ⟨hg,hi⟩;subst hP hw hK;have au:i<es.size:=by omega
  obtain⟨kv,gu,r1⟩:=hk i au;obtain⟨f0,f1,f2,f3,f4,f5⟩:=hf it (by simp);have ig:s.heap.get? dc=some oc:=(I.hok dc _ hg).1;refine zY st ig h2 au λh' b0 sb=>?_;have I1:Inv X pins σ H { s with heap:=h' }:=I.turned (t':=s.toks) (λb o hb e=>(sb.2 b hb).trans e) f0 f1 f3 f4 f5;obtain⟨o,e,c,d⟩:=id b0;exact⟨_,rfl,uF (s:={ s with heap:=h' }) e c d (by decide) ⟨kv,H,I1,r1,⟨rfl,gu⟩,b0,λb hb=>(hf b hb).1⟩⟩
 done:=by
  intro X hP hw hK hc i pins s σ H E I hf st ⟨hg,hi⟩;subst hP hw hK;obtain⟨f0,f1,f2,f3,f4,f5⟩:=hf it (by simp);have ig:s.heap.get? dc=some oc:=(I.hok dc _ hg).1;exact zZ (I.ok.hd hc) st ig h2 (by omega) λh' eb=>⟨rfl,I.turned (t':=s.toks) (λb o hb e=>eb b o hb e) f0 f1 f3 f4 f5⟩
 self:=λ_ _ _ _ _ st h=>wpAny_pyIter_keyiter st h
def lO:MO->Option (List PV)
 |.dK kvs=>some (kvs.map λkv=>.tup [kP kv.1,kv.2])
 |.dD kvs=>some (kvs.map λkv=>.tup [kv.1,kv.2])
 |_=>none
def nR:MO->Option (List PV)
 |.dK kvs=>some (kvs.map λkv=>kP kv.1)
 |.dD kvs=>some (kvs.map (·.1))
 |_=>none
def nU:Option MO->Bool
 |some (.dK _)=>true
 |some (.dD _)=>true
 |_=>false
def wkI(b:Bool)(x:PV)(h:PH):Option (Nat×MO×List PV):=match x with
 |.ref n=>match h[n]? with
  |some (.vw 0 d)=>if b then(h[d]?).bind λo=>(lO o).map λxs=>(d,o,xs) else none
  |some o=>(nR o).map λxs=>(n,o,xs)
  |none=>none
 |_=>none
def sQ(b:Bool)(m:Me):Mi:=λδ h=>(m δ h).bind λx h1=>match wkI b x h1 with
 |some (d,o,xs)=>.ok ⟨xs,λ_=>true⟩ (h1.set d (.fz o))
 |none=>.bad
theorem K5{k:Key}{v:Value}(h:rA k v=true):RelV (kV k) v:=by
 rcases aY h with⟨i,t,rfl,rfl⟩|⟨x,t,rfl,rfl⟩
 ·exact⟨t,rfl⟩
 ·exact⟨t,rfl⟩
theorem oW{α β:Type}{F:α->β->Prop}:∀{l:List α}{m:List β},Paired F l m->∀{i:Nat}{a:α},l[i]?=some a->∃b,m[i]?=some b/\F a b
 |_,_,.nil,i,a,e=>by simp at e
 |_,_,.cons (a:=x) (b:=y) r t,0,a,e=>by
  have:x=a:=by simpa using e
  subst this;exact⟨y,rfl,r⟩
 |_,_,.cons r t,i+1,a,e=>by
  obtain⟨b,h1,h2⟩:=oW t (i:=i) (a:=a) (by simpa using e)
  exact⟨b,by simpa using h1,h2⟩
theorem lP{α β:Type}{F:α->β->Prop}:∀{l:List α}{m:List β},Paired F l m->∀{i:Nat}{b:β},m[i]?=some b->∃a,l[i]?=some a/\F a b
 |_,_,.nil,i,a,e=>by simp at e
 |_,_,.cons (a:=x) (b:=y) r t,0,b,e=>by
  have:y=b:=by simpa using e
  subst this;exact⟨x,rfl,r⟩
 |_,_,.cons r t,i+1,b,e=>by
  obtain⟨a,h1,h2⟩:=lP t (i:=i) (b:=b) (by simpa using e)
  exact⟨a,by simpa using h1,h2⟩
theorem BX(a:Key):RV C φ H (kP a) (kV a):=by cases a <;> rfl
theorem ET{kvs:List (Key×PV)}{ks:List (Key×V)}(rk:RKv C φ H kvs ks):RVs C φ H (kvs.map λkv=>kP kv.1) ((ks.map λq=>(kV q.1,q.2)).map (·.1)):=by
 unfold RKv at rk
 induction rk with
 |nil=>trivial
 | @cons p q ps qs e t ih=>exact⟨by show RV C φ H (kP p.1) (kV q.1);rw[e.1];exact BX q.1,ih⟩
theorem EU(rk:RKd C φ H kvs ks):RVs C φ H (kvs.map (·.1)) ((ks.map λq=>(V.ref q.2.1,q.2.2)).map (·.1)):=by
 unfold RKd at rk
 induction rk with
 |nil=>trivial
 | @cons p q ps qs e t ih=>exact⟨e.2.2.1,ih⟩
structure MG(C:MC)(φ:List Addr)(H:Hp)(s:Shared)(b:Addr)(o:MO)(ks:List (V×V))(u:HO)(oc:Obj)(es:Array QX)(ep:Nat):Prop where
 at':H b=some u
 nf:ES u
 nz:∀o z,u≠.frz o z
 nt:pZ (some u)
 get:s.heap.get? b=some oc
 cls:oc.cls=.type "dict"
 data:oc.data=.dict es ep
 nsys:(b == Qm)=false
 fz:∀φ' H',φ<+:φ'->H' b=some (.frz oc u)->Kp H H'->RO C φ' H' b (.fz o)
 len:ks.length=es.size
 ent:∀(i:Nat)(hi:i<es.size),∃kv,ks[i]?=some kv/\RelV kv.1 es[i].key/\RelV kv.2 es[i].val
 keys:∀xs,nR o=some xs->RVs C φ H xs (ks.map (·.1))
 items:∀xs,lO o=some xs->xs.length=ks.length/\∀(i:Nat) p,xs[i]?=some p->∃p1 p2 kv,p=.tup [p1,p2]/\ks[i]?=some kv/\RV C φ H p1 kv.1/\RV C φ H p2 kv.2
theorem A1{k:Nat}{d:Nat}{b:Addr}(c:Cxt C k X)(I:Inv X pins σ H s)(rh:RH C φ H h)(hb:φ[d]?=some b)(ho:h[d]?=some o)(hd:nU (some o)=true):∃ks u oc es ep,MG C φ H s b o ks u oc es ep:=by
 cases o with
 |dK kvs=>
  obtain⟨ks,hH,rk⟩:=rh.at' d b _ hb ho;obtain⟨z,hm,vs,rel,dd⟩:=uO I.hok hH;obtain⟨oc,es,ep,g1,g2,g3,g4,g5,g6⟩:=dd;have l1:ks.length=vs.length:=Qi rel;have l2:es.size=vs.length:=by have:=sL g5;have:=congrArg List.length this;simpa using this
  refine⟨ks.map λq=>(kV q.1,q.2),_,oc,es,ep,hH,trivial,(λ_ _ e=>by cases e),trivial,g1,g2.1,g3,hm,λφ' H' p e t=>⟨oc,ks,e,rk.mono p t⟩,by rw[Pl,l1,l2],λi hi=>?_,λxs hx=>?_,λxs hx=>?_⟩
  ·have hv:vs[i]?=some (vs[i]'(by omega)):=by simp[show i<vs.length by omega]
   have he:es.toList[i]?=some es[i]:=by simp[hi]
   obtain⟨q1,q2⟩:=g5.get? he hv;obtain⟨kv,gu,m7⟩:=lP rel hv;refine⟨(kV kv.1,kv.2),by rw[Pu,gu];rfl,?_,?_⟩
   ·show RelV (kV kv.1) es[i].key
    rw[m7.1];exact K5 q1
   ·show RelV kv.2 es[i].val
    rw[q2];exact m7.2
  ·cases hx
   exact ET rk
  ·cases hx
   have lk:kvs.length=ks.length:=Qi rk;refine⟨by rw[Pl,Pl,lk],λi p e=>?_⟩;rw[Pu]at e;obtain⟨kv,e1,rfl⟩:=PB.mp e;obtain⟨q,e2,r2⟩:=oW rk e1;exact⟨_,_,(kV q.1,q.2),rfl,by rw[Pu,e2];rfl,by show RV C φ H (kP kv.1) (kV q.1);rw[r2.1];exact BX q.1,r2.2⟩
 |dD kvs=>
  obtain⟨ks,hH,rk⟩:=rh.at' d b _ hb ho;have hO:aZ X.prog X.w H s.heap b (dDO C.w b ks):=I.hok b _ hH;obtain⟨⟨hz,hm,xs,rx,oc,es,ep,g1,g2,g3,g4,g5⟩,_⟩:=hO;have l1:ks.length=xs.length:=Qi rx;have l2:es.size=xs.length:=by have:=congrArg List.length g4;simpa using this
  refine⟨ks.map λq=>(V.ref q.2.1,q.2.2),_,oc,es,ep,hH,trivial,(λ_ _ e=>by cases e),trivial,g1,g2.1,g3,hm,λφ' H' p e t=>⟨oc,ks,e,rk.mono p t⟩,by rw[Pl,l1,l2],λi hi=>?_,λxs hx=>?_,λxs hx=>?_⟩
  ·have hv:xs[i]?=some (xs[i]'(by omega)):=by simp[show i<xs.length by omega]
   have he:es.toList[i]?=some es[i]:=by simp[hi]
   rw[g4,Pu,hv]at he;have gp:=PP he;obtain⟨kv,gu,m7⟩:=lP rx hv;refine⟨(V.ref kv.2.1,kv.2.2),by rw[Pu,gu];rfl,?_,?_⟩
   ·show RelV (V.ref kv.2.1) es[i].key
    rw[<-gp,m7.2.1];rfl
   ·show RelV kv.2.2 es[i].val
    rw[<-gp];exact m7.2.2
  ·cases hx
   exact EU rk
  ·cases hx
   have lk:kvs.length=ks.length:=Qi rk;refine⟨by rw[Pl,Pl,lk],λi p e=>?_⟩;rw[Pu]at e;obtain⟨kv,e1,rfl⟩:=PB.mp e;obtain⟨q,e2,r2⟩:=oW rk e1;exact⟨_,_,(V.ref q.2.1,q.2.2),rfl,by rw[Pu,e2];rfl,r2.2.2.1,r2.2.2.2⟩
 |_=>cases hd
theorem A2(h:nR o=some xs):nU (some o)=true:=by cases o <;> first|rfl|cases h
theorem Df(h:lO o=some xs):nU (some o)=true:=by cases o <;> first|rfl|cases h
set_option tactic.hygienic true in
theorem He{x:PV}{d:Nat}(e:wkI b x h=some (d,o,xs)):∃n,x=.ref n/\((h[n]?=some (.vw 0 d)/\b=true/\h[d]?=some o/\lO o=some xs)\/(h[n]?=some o/\n=d/\nR o=some xs)):=by
 unfold wkI at e;split at e
 ·rename_i n;refine⟨n,rfl,?_⟩;split at e
  ·rename_i d' hv;split at e
   ·rename_i hb;cases e1:h[d']? with
    |none=>rw[e1]at e;cases e
    |some o'=>
     rw[e1]at e;cases e2:lO o' with
     |none=>simp[e2]at e
     |some ys=>
      simp[e2]at e;obtain⟨rfl,rfl,rfl⟩:=e;exact .inl ⟨hv,hb,e1,e2⟩
   ·cases e
  ·rename_i o' _ hv;cases e2:nR o' with
   |none=>rw[e2]at e;cases e
   |some ys=>
    rw[e2]at e;simp at e;obtain⟨rfl,rfl,rfl⟩:=e;exact .inr ⟨hv,rfl,e2⟩
  ·cases e
 ·cases e
def walk2(b:Bool)(x:PV)(h1:PH):Rs Wk:=match wkI b x h1 with
 |some (d,o,xs)=>.ok ⟨xs,λ_=>true⟩ (h1.set d (.fz o))
 |none=>.bad
theorem K6{k:Nat}(b:Bool)(hb:b=true->∃elts x1 pos,tg=.Tuple elts x1 pos)(h:SE C k X iter m):SI C k X tg iter (sQ b m):=λc=>by
 intro pins s σ H R I q;obtain⟨φ,δ,hh,rh,re,p⟩:=q;have key:rd C m σ H λv H1=>∃φ1 x h1,φ<+:φ1/\Kp H H1/\RH C φ1 H1 h1/\RV C φ1 H1 x v/\cN C φ1 H1 (walk2 b x h1) R:=by
  refine⟨φ,δ,hh,rh,re,?_⟩;unfold sQ at p;cases e:m δ hh with
  |ok x h1=>
   rw[e]at p;intro φ' v H' p' t' bg az;refine⟨φ',x,h1,p',t',bg,az,?_⟩
   show cN C φ' H' (walk2 b x h1) R
   have p0:cN C φ H (walk2 b x h1) R:=p;cases e2:walk2 b x h1 with
   |ok w h2=>rw[e2]at p0;exact λφ2 H2 J p2 t2=>p0 φ2 H2 J (p'.trans p2) (t'.trans t2)
   |exc z h2=>rw[e2]at p0;exact λφ2 H2 p2 t2=>p0 φ2 H2 (p'.trans p2) (t'.trans t2)
   |bad=>rw[e2]at p0;exact p0
  |exc x h1=>rw[e]at p;exact p
  |bad=>rw[e]at p;exact p
 refine thn (h c pins s σ H _ I key) λv s1 hz=>?_;obtain⟨x,H1,I1,r1,φ1,x',h1,p1,t1,aa,ab,q1⟩:=hz;unfold walk2 at q1;cases e:wkI b x' h1 with
 |none=>rw[e]at q1;exact q1.elim
 |some t=>
  obtain⟨d,o,xs⟩:=t;rw[e]at q1;dsimp only at q1;obtain⟨n,rfl,mq⟩:=He e;obtain⟨a,rfl,ha⟩:=ab;cases r1
  -- the frozen heap
  have fin:∀{bb:Addr}{ks:List (V×V)}{u:HO}{oc:Obj}{es:Array QX}{ep:Nat}(j8:φ1[d]?=some bb)(W:MG C φ1 H1 s1 bb o ks u oc es ep)(ob:Obj)(J:It)(tn:Nat->Heap->Prop),(∀φ2 H2 h2,φ1<+:φ2->Kp (upd H1 bb (.frz oc u)) H2->RH C φ2 H2 h2->∀i:Nat,
    (i<xs.length->J.go i H2/\∀x H',J.yld i H2 x H'->(∃p,xs[i]?=some p/\RV C φ2 H' p x)/\Kp H2 H'/\RH C φ2 H' h2)/\(xs.length<=i->J.stop i H2))->
    Turn X.prog X.w X.K tg J [s1.heap.objs.size] s1.heap.objs.size tn->tn 0 (s1.heap.push ob)->PIE X pins σ tg R (.ref s1.heap.objs.size) { s1 with heap:=s1.heap.push ob }:=λ{bb ks u oc es ep} j8 W ob J tn hJ hT h0=>by
   have I2:=I1.freeze W.at' W.nf W.nz W.get;have nt:pZ (H1 bb):=by rw[W.at'];exact W.nt
   refine⟨s1.heap.objs.size,[s1.heap.objs.size],tn,J,upd H1 bb (.frz oc u),rfl,I2.kept (t':=s1.toks) λb o e=>Pn _ e,hT,h0,λb hb=>?_,?_⟩
   ·have e:b=s1.heap.objs.size:=by simpa using hb
    subst e;exact I2.fpOk (Pk _) (I2.hok.fresh (Pk _))
   ·exact q1 φ1 _ J Po (Kp.upd nt) (aa.write j8 nt (W.fz φ1 _ Po aI (Kp.upd nt))) λφ2 H2 h2 p2 t2 ag _ i=>hJ φ2 H2 h2 p2 t2 ag i
  rcases mq with⟨hv,hbt,ho,hx⟩|⟨ho,rfl,hx⟩
  ·obtain⟨bb,j8,hH⟩:=aa.at' n a _ ha hv;obtain⟨ks,u,oc,es,ep,W⟩:=A1 c I1 aa j8 ho (Df hx);obtain⟨elts,x1,pos,rfl⟩:=hb hbt;have gf:s1.heap.IsItemsView a bb:=(I1.hok a _ hH).1;obtain⟨lx,ex⟩:=W.items xs hx;refine AB gf W.get W.data (fin j8 W _ (ItI bb oc u ks) _ (λφ2 H2 h2 p2 t2 ag i=>⟨λhi=>⟨⟨t2.2 _ _ _ aI,by omega⟩,λx H' y=>?_⟩,λhi=>⟨t2.2 _ _ _ aI,by omega⟩⟩) (B2 _ bb oc u es ep W.data ks W.len W.ent) ⟨.none,.none,Pr _ rfl⟩);obtain⟨t,kv,ht,gu,rfl,rfl⟩:=y;obtain⟨p1,p2',kv',zp,mz,yc,sx⟩:=ex i xs[i] (by simp[hi]);rw[gu]at mz;cases mz
   have nt:pZ (H1 bb):=by rw[W.at'];exact W.nt
   have T:Kp H1 (upd H2 t (.tup [kv.1,kv.2])):=(Kp.upd nt).trans (t2.trans (Kp.new ht));refine⟨⟨xs[i],by simp[hi],?_⟩,Kp.new ht,ag.aside ht⟩;rw[zp];exact⟨t,[kv.1,kv.2],rfl,.inl (.inl aI),yc.mono p2 T,sx.mono p2 T,trivial⟩
  ·obtain⟨ks,u,oc,es,ep,W⟩:=A1 c I1 aa ha ho (A2 hx);have rk:=W.keys xs hx;have lx:=rk.length;rw[Pl]at lx;refine Dc ⟨oc,W.get,W.cls⟩ W.nsys W.get W.data (fin ha W _ (ItK a oc u (ks.map (·.1))) _ (λφ2 H2 h2 p2 t2 ag i=>⟨λhi=>⟨⟨t2.2 _ _ _ aI,by rw[Pl];omega⟩,λx H' y=>?_⟩,λhi=>⟨t2.2 _ _ _ aI,by rw[Pl];omega⟩⟩) (De _ a oc u es ep W.data (ks.map (·.1)) (by rw[Pl];exact W.len) λi hi=>?_) ⟨_,Pr _ rfl,rfl,rfl⟩)
   ·obtain⟨rfl,ey⟩:=y;have nt:pZ (H1 a):=by rw[W.at'];exact W.nt
    obtain⟨p,e7,rp⟩:=rk.get ey;exact⟨⟨p,e7,rp.mono p2 ((Kp.upd nt).trans t2)⟩,Kp.refl _,ag⟩
   ·obtain⟨kv,gu,r1,_⟩:=W.ent i hi;exact⟨kv.1,by rw[Pu,gu];rfl,r1⟩
theorem RH.writeQ(r:RH C φ H h){u:HO}(e:φ[n]?=some a)(t:Kq H (upd H a u))(q:RO C φ (upd H a u) a o):RH C φ (upd H a u) (h.set n o):=by
 refine⟨by rw[QG];exact r.len,r.nd,λm b ob h1 h2=>?_⟩
 by_cases hm:n=m
 ·subst hm;rw[e]at h1;cases h1;have hl:n<h.length:=by rw[<-r.len];exact(Pg.mp e).1
  rw[QQ hl]at h2;cases h2
  exact q
 ·rw[PQ hm]at h2;have hb:b≠a:=λz=>by
   subst z;exact hm ((List.getElem?_inj (Pg.mp e).1 r.nd).mp (e.trans h1.symm))
  exact(r.at' m b ob h1 h2).stayQ Po t (aE hb)
def jL(d:Nat)(h:PH):Option PH:=match h[d]? with
 |some (.fz o)=>some (h.set d o)
 |_=>none
set_option tactic.hygienic true in
theorem kC{d:Nat}(rh:RH C φ H h)(hd:nU h[d]?=true)(p:φ<+:φ')(t:Kp H H')(ag:RH C φ' H' h2)(e:jL d h2=some h3):
  ∃a oc u,H' a=some (.frz oc u)/\(∀o z,H a≠some (.frz o z))/\Kp H (upd H' a u)/\RH C φ' (upd H' a u) h3/\Kq H' (upd H' a u):=by
 unfold jL at e;split at e
 ·rename_i o ho;cases e
  cases e0:h[d]? with
  |none=>rw[e0]at hd;cases hd
  |some o0=>
   rw[e0]at hd;obtain⟨a,ha,r0⟩:=rh.get e0;have nf:∀o z,H a≠some (.frz o z):=λo z q=>by
    cases o0 with
    |dK kvs=>obtain⟨ks,q2,_⟩:=r0;rw[q]at q2;cases q2
    |dD kvs=>obtain⟨ks,q2,_⟩:=r0;rw[q]at q2;cases q2
    |_=>cases hd
   have ha':=dQ p ha;have r1:=ag.at' d a _ ha' ho;have gen:∀oc u,H' a=some (.frz oc u)->(∀xs,u≠.tup xs)->(∀xs,u≠.lst xs)->Kp H (upd H' a u)/\Kq H' (upd H' a u):=λoc u q nt nl=>by
    have kq:Kq H' (upd H' a u):=⟨λb xs z=>by
     have ne:b≠a:=by
      rintro rfl;rcases z with z|⟨ob,z⟩
      ·rw[q]at z;cases z
      ·rw[q]at z;cases z;exact nt _ rfl
     unfold Rd;rw[aE ne];exact z,λb ob xs z=>by
     have ne:b≠a:=by
      rintro rfl;rw[q]at z;cases z;exact nl _ rfl
     rw[aE ne];exact z⟩
    refine⟨⟨λb xs z=>kq.1 b xs (t.1 b xs z),λb ob z q2=>?_⟩,kq⟩;have ne:b≠a:=λz2=>nf ob z (z2▸q2);rw[aE ne];exact t.2 b ob z q2
   cases o with
   |dK kvs=>
    obtain⟨oc,ks,q,r⟩:=r1;obtain⟨k1,k2⟩:=gen oc _ q (λ_ z=>by cases z) (λ_ z=>by cases z);exact⟨a,oc,_,q,nf,k1,ag.writeQ ha' k2 ⟨ks,aI,r.monoQ Po k2⟩,k2⟩
   |dD kvs=>
    obtain⟨oc,ks,q,r⟩:=r1;obtain⟨k1,k2⟩:=gen oc _ q (λ_ z=>by cases z) (λ_ z=>by cases z);exact⟨a,oc,_,q,nf,k1,ag.writeQ ha' k2 ⟨ks,aI,r.monoQ Po k2⟩,k2⟩
   |_=>exact r1.elim
 ·cases e
def wkD(b:Bool)(m:Me)(δ:Ev)(h:PH):Option Nat:=match m δ h with
 |.ok x h1=>match wkI b x h1 with
  |some (d,_,_)=>if nU h[d]?=true then some d else none
  |none=>none
 |_=>none
set_option tactic.hygienic true in
theorem K7{d:Nat}(e:wkD b m δ h=some d):nU h[d]?=true:=by
 unfold wkD at e;split at e
 ·split at e
  ·split at e
   ·rename_i hd;cases e
    exact hd
   ·cases e
  ·cases e
 ·cases e
theorem RE.monoQ(t:Kq H H')(h:RE C φ H δ σ):RE C φ H' δ σ:=⟨h.1,λi x e=>let ⟨v,q,r⟩:=h.2 i x e;⟨v,q,r.monoQ Po t⟩⟩
def kN(d:Nat):Fl->Fl
 |.nx δ h=>match jL d h with
  |some h3=>.nx δ h3
  |none=>.bad
 |.rt p h=>match jL d h with
  |some h3=>.rt p h3
  |none=>.bad
 |.bk δ h=>match jL d h with
  |some h3=>.bk δ h3
  |none=>.bad
 |.ct δ h=>match jL d h with
  |some h3=>.ct δ h3
  |none=>.bad
 |.exc x h=>.exc x h
 |.bad=>.bad
def oX(b:Bool)(m:Me)(ms:Ms):Ms:=λδ h=>match wkD b m δ h with
 |some d=>kN d (ms δ h)
 |none=>.bad
def BY(H:Hp)(P:Hp->Prop)(H2:Hp):Prop:=∃a oc u,H2 a=some (.frz oc u)/\(∀o z,H a≠some (.frz o z))/\P (upd H2 a u)
theorem K8{k:Nat}{ms:Ms}(b:Bool)(m:Me)(he:SSt C k X st ms):SSt C k X st (oX b m ms):=λc=>by
 intro pins s σ H D I q;obtain⟨φ,δ,h,rh,re,p⟩:=q;unfold oX at p;cases ed:wkD b m δ h with
 |none=>rw[ed]at p;exact p.elim
 |some d=>
  rw[ed]at p;dsimp only at p;have hd:=K7 ed;refine thn (he c pins s σ H { nx:=λσ=>BY H (D.nx σ),rt:=λv=>BY H (D.rt v),bk:=λσ=>BY H (D.bk σ),ct:=λσ=>BY H (D.ct σ) } I ⟨φ,δ,h,rh,re,?_⟩) ?_
  ·cases em:ms δ h with
   |bad=>rw[em]at p;exact p.elim
   |exc x h2=>rw[em]at p;exact p
   |nx δ2 h2=>
    rw[em]at p;intro φ' v H' pp tt bg az;cases et:jL d h2 with
    |none=>simp only[kN,et]at p;exact p.elim
    |some h3=>
     simp only[kN,et]at p;obtain⟨a,oc,u,q,nf,k1,b8,k2⟩:=kC rh hd pp tt bg et;exact⟨a,oc,u,q,nf,p φ' v _ pp k1 b8 (RE.monoQ k2 az)⟩
   |rt x h2=>
    rw[em]at p;intro φ' v H' pp tt bg az;cases et:jL d h2 with
    |none=>simp only[kN,et]at p;exact p.elim
    |some h3=>
     simp only[kN,et]at p;obtain⟨a,oc,u,q,nf,k1,b8,k2⟩:=kC rh hd pp tt bg et;exact⟨a,oc,u,q,nf,p φ' v _ pp k1 b8 (az.monoQ Po k2)⟩
   |bk δ2 h2=>
    rw[em]at p;intro φ' v H' pp tt bg az;cases et:jL d h2 with
    |none=>simp only[kN,et]at p;exact p.elim
    |some h3=>
     simp only[kN,et]at p;obtain⟨a,oc,u,q,nf,k1,b8,k2⟩:=kC rh hd pp tt bg et;exact⟨a,oc,u,q,nf,p φ' v _ pp k1 b8 (RE.monoQ k2 az)⟩
   |ct δ2 h2=>
    rw[em]at p;intro φ' v H' pp tt bg az;cases et:jL d h2 with
    |none=>simp only[kN,et]at p;exact p.elim
    |some h3=>
     simp only[kN,et]at p;obtain⟨a,oc,u,q,nf,k1,b8,k2⟩:=kC rh hd pp tt bg et;exact⟨a,oc,u,q,nf,p φ' v _ pp k1 b8 (RE.monoQ k2 az)⟩
  ·intro f s1 hf;cases f with
   |next=>
    obtain⟨σ',H2,I2,a,oc,u,q,nf,hq⟩:=hf;exact⟨σ',_,I2.thaw q (I.nofrz nf),hq⟩
   |brk=>
    obtain⟨σ',H2,I2,a,oc,u,q,nf,hq⟩:=hf;exact⟨σ',_,I2.thaw q (I.nofrz nf),hq⟩
   |cont=>
    obtain⟨σ',H2,I2,a,oc,u,q,nf,hq⟩:=hf;exact⟨σ',_,I2.thaw q (I.nofrz nf),hq⟩
   |ret w=>
    obtain⟨v,σ',H2,I2,r,a,oc,u,q,nf,hq⟩:=hf;exact⟨v,σ',_,I2.thaw q (I.nofrz nf),r,hq⟩
def fU:PV->List PV->PH->Rs PV:=λx ps h=>match x,ps with
 |.ref n,[]=>if nU h[n]?=true then .ok (.ref h.length) (h++[.vw 0 n]) else .bad
 |_,_=>.bad
set_option tactic.hygienic true in
theorem EV{k:Nat}:MtG C k X "dict" aV "dict.items" fU:=λc=>⟨λpins s σ H x xs v us Q I rx rs h=>by
 obtain⟨φ,h,p,ps,rh,rp,fh,po⟩:=h;unfold fU at po;split at po
 ·rename_i n;split at po
  ·rename_i hd;obtain⟨a,rfl,ha⟩:=rp;have:xs=[]:=by cases xs <;> first|rfl|exact fh.elim
   subst this;cases rx
   cases rs
   cases ho:h[n]? with
   |none=>rw[ho]at hd;cases hd
   |some o=>
    rw[ho]at hd;obtain⟨ks,u,oc,es,ep,W⟩:=A1 c I rh ha ho hd;have hT:s.TypeIs (.ref a) "dict" := ⟨oc,W.get,W.cls⟩;refine Rb PySem.F.slot_dict_items hT PySem.F.entry_dict_items (PySem.F.args_dict_items_1 _) (yZ a W.nsys) ⟨hT,?_⟩;have fr:H s.heap.objs.size=none:=I.fresh;refine⟨.ref s.heap.objs.size,_,I.laid (t':=s.toks) (o:=Bu 0 s.heap.objs.size a) (λb u e=>Pn _ e) (Pk _) ?_,rfl,?_⟩
    ·exact⟨⟨_,Pr _ rfl,rfl,rfl⟩,⟨_,Pr _ rfl⟩,λh1 h2 ⟨o,e,p⟩ k=>⟨o,k o e,p⟩⟩
    ·exact po (φ++[s.heap.objs.size]) (.ref _) _ (Qc _ _) (Kp.new fr) (rh.new fr ⟨a,dQ (Qc _ _) ha,aI⟩) ⟨_,rfl,by rw[<-rh.len];simp⟩
  ·exact po.elim
 ·exact po.elim,gL c⟩
theorem B3(e:h[n]?=some o)(hd:nU (some o)=true):fU (.ref n) [] h=.ok (.ref h.length) (h++[.vw 0 n]):=by
 simp only[fU,e,hd,if_true]
theorem EW{d:Nat}(e:h[n]?=some (.vw 0 d))(e2:h[d]?=some o)(hx:lO o=some xs):wkI true (.ref n) h=some (d,o,xs):=by
 simp[wkI,e,e2,hx]
theorem K9{x:PV}{d:Nat}(e:m δ h=.ok x h1)(ew:wkI b x h1=some (d,o,xs))(hd:nU h[d]?=true):wkD b m δ h=some d:=by
 simp[wkD,e,ew,hd]
theorem EX{x:PV}{d:Nat}(e:m δ h=.ok x h1)(ew:wkI b x h1=some (d,o,xs)):sQ b m δ h=.ok ⟨xs,λ_=>true⟩ (h1.set d (.fz o)):=by
 simp[sQ,e,ew]
theorem Dg{r:Addr}{es:Array QX}(h2:oc.data=.dict es ep):PySem.W.KdlSrc prog w "dict_keys" r dc es.size (λi v=>∃e,es[i]?=some e/\v=e.key) (λh=>PySem.W.KdlKeysView h r dc/\h.get? dc=some oc) where
 type:=λ_ hm=>hm.1.typeIs
 there:=λ_ hm=>⟨let ⟨_,ho,_⟩:=hm.1;Py ho,Py hm.2⟩
 keep:=λ_ _ hm hk=>⟨let ⟨o,ho,x⟩:=hm.1;⟨o,hk r (.inl rfl) o ho,x⟩,hk dc (.inr rfl) _ hm.2⟩
 notList:=by decide
 notTuple:=by decide
 hint:=λ_ _ _ _ hm hq=>PySem.W.kdl_hint_keys hm.1.typeIs hq
 iter:=λ_ _ hh hm=>⟨_,_,(λ_ _ hq=>AE hm.1 hm.2 h2 hq),B0 hh _ dc (Qd (Py hm.2)) oc es ep h2,⟨⟨_,Pr _ rfl,rfl,rfl⟩,Pn _ hm.2⟩⟩
def oY:PV->List PV->PH->Rs PV:=λx ps h=>match x,ps with
 |.ref n,[]=>if nU h[n]?=true then .ok (.ref h.length) (h++[.vw 2 n]) else .bad
 |_,_=>.bad
set_option tactic.hygienic true in
theorem Hf{k:Nat}:MtG C k X "dict" aV "dict.keys" oY:=λc=>⟨λpins s σ H x xs v us Q I rx rs h=>by
 obtain⟨φ,h,p,ps,rh,rp,fh,po⟩:=h;unfold oY at po;split at po
 ·rename_i n;split at po
  ·rename_i hd;obtain⟨a,rfl,ha⟩:=rp;have:xs=[]:=by cases xs <;> first|rfl|exact fh.elim
   subst this;cases rx
   cases rs
   cases ho:h[n]? with
   |none=>rw[ho]at hd;cases hd
   |some o=>
    rw[ho]at hd;obtain⟨ks,u,oc,es,ep,W⟩:=A1 c I rh ha ho hd;have hT:s.TypeIs (.ref a) "dict" := ⟨oc,W.get,W.cls⟩;refine Rb PySem.F.slot_dict_keys hT PySem.F.entry_dict_keys (PySem.F.args_dict_keys_1 _) (AF a W.nsys) ⟨hT,?_⟩;have fr:H s.heap.objs.size=none:=I.fresh;refine⟨.ref s.heap.objs.size,_,I.laid (t':=s.toks) (o:=Bu 2 s.heap.objs.size a) (λb u e=>Pn _ e) (Pk _) ?_,rfl,?_⟩
    ·exact⟨⟨_,Pr _ rfl,rfl,rfl⟩,⟨_,Pr _ rfl⟩,λh1 h2 ⟨o,e,p⟩ k=>⟨o,k o e,p⟩⟩
    ·exact po (φ++[s.heap.objs.size]) (.ref _) _ (Qc _ _) (Kp.new fr) (rh.new fr ⟨a,dQ (Qc _ _) ha,aI⟩) ⟨_,rfl,by rw[<-rh.len];simp⟩
  ·exact po.elim
 ·exact po.elim,gL c⟩
def sR(h:PH)(n:Nat):Option (List PV):=match h[n]? with
 |some (.vw 2 d)=>(h[d]?).bind nR
 |_=>none
theorem Dh(e:h[n]?=some o)(hd:nU (some o)=true):oY (.ref n) [] h=.ok (.ref h.length) (h++[.vw 2 n]):=by
 simp only[oY,e,hd,if_true]
open PySem PySem.Spec PyProof.Rows PySem.SeqAt PySem.W
def hdk:PV->Option Nat
 |.tup (.int _::_)=>some 0
 |.tup (.str _::_)=>some 1
 |.tup (.tup _::_)=>some 2
 |_=>none
open PySem PySem.Spec PyProof.Rows
def Its(x:Str):It:=⟨λi _=>i<x.cps.size,λi H v H'=>H'=H/\∃c,x.cps[i]?=some c/\v=V.str ⟨#[c]⟩,λi _=>x.cps.size<=i⟩
theorem EY(x:Str)(t:Tok)(it:Addr):Turn P w K tg (Its x) [it] it (λi h=>h.IsStrIter it "str_ascii_iterator" x t i) where
 mem:=by simp
 obj:=λi h st b hb=>by
  have e:b=it:=by simpa using hb
  subst e;obtain⟨o,e,c,d⟩:=st;exact⟨o,e,λv z=>by rw[d]at z;cases z⟩
 keep:=λi h h' ⟨o,e,r⟩ k=>⟨o,k it (by simp) o e,r⟩
 item:=by
  intro X hP hw hK hc i pins s σ H E I hf st hg;subst hP hw hK;obtain⟨f0,f1,f2,f3,f4,f5⟩:=hf it (by simp);have hi:x.cps[i]?=some x.cps[i]:=QT hg;refine wpAny_pyNext_ascii_item st hi λh' b0 sb=>?_;have I1:Inv X pins σ H { s with heap:=h',toks:=s.toks+1 }:=I.turned (t':=s.toks+1) (λb o hb e=>(sb.2 b hb).trans e) f0 f1 f3 f4 f5;obtain⟨o,e,c,d⟩:=id b0;exact⟨_,rfl,uF (s:={ s with heap:=h',toks:=s.toks+1 }) e c d (by decide) ⟨.str ⟨#[x.cps[i]]⟩,H,I1,⟨_,rfl⟩,⟨rfl,_,hi,rfl⟩,b0,λb hb=>(hf b hb).1⟩⟩
 done:=by
  intro X hP hw hK hc i pins s σ H E I hf st hg;subst hP hw hK;obtain⟨f0,f1,f2,f3,f4,f5⟩:=hf it (by simp);exact wpAny_pyNext_ascii_end (I.ok.hd hc) st (QA hg) λh' eb=>⟨rfl,I.turned (t':=s.toks) (λb o hb e=>eb b o hb e) f0 f1 f3 f4 f5⟩
 self:=λ_ _ _ _ _ st h=>wpAny_pyIter_striter_ascii st h
def ofStr(x:PV)(h:PH):Rs Wk:=match x with
 |.str x=>if(x.cps.all λc=>decide (c<128))=true then .ok ⟨x.cps.toList.map λc=>.str ⟨#[c]⟩,λ_=>true⟩ h else .bad
 |_=>.bad
def vM(m:Me):Mi:=λδ h=>(m δ h).bind ofStr
set_option tactic.hygienic true in
theorem MH{k:Nat}(h:SE C k X iter m):SI C k X tg iter (vM m):=λc=>by
 intro pins s σ H R I q;obtain⟨φ,δ,hh,rh,re,p⟩:=q;have key:rd C m σ H λv H1=>∃φ1 x h1,φ<+:φ1/\Kp H H1/\RH C φ1 H1 h1/\RV C φ1 H1 x v/\cN C φ1 H1 (ofStr x h1) R:=by
  refine⟨φ,δ,hh,rh,re,?_⟩;unfold vM at p;cases e:m δ hh with
  |ok x h1=>
   rw[e]at p;intro φ' v H' p' t' bg az;refine⟨φ',x,h1,p',t',bg,az,?_⟩
   show cN C φ' H' (ofStr x h1) R
   have p0:cN C φ H (ofStr x h1) R:=p;cases e2:ofStr x h1 with
   |ok w h2=>rw[e2]at p0;exact λφ2 H2 J p2 t2=>p0 φ2 H2 J (p'.trans p2) (t'.trans t2)
   |exc z h2=>rw[e2]at p0;exact λφ2 H2 p2 t2=>p0 φ2 H2 (p'.trans p2) (t'.trans t2)
   |bad=>rw[e2]at p0;exact p0
  |exc x h1=>rw[e]at p;exact p
  |bad=>rw[e]at p;exact p
 refine thn (h c pins s σ H _ I key) λv s1 hz=>?_;obtain⟨x,H1,I1,r1,φ1,x',h1,p1,t1,aa,ab,q1⟩:=hz;unfold ofStr at q1;cases x' with
 |str x'=>
  cases ab
  obtain⟨t,rfl⟩:=r1;dsimp only at q1;split at q1
  ·rename_i ha;refine wpAny_pyIter_ascii ha ?_;refine⟨s1.heap.objs.size,[s1.heap.objs.size],_,_,H1,rfl,I1.kept (t':=s1.toks) λb o e=>Pn _ e,EY x' t _,⟨_,Pr _ rfl,rfl,rfl⟩,λb hb=>?_,?_⟩
   ·have e:b=s1.heap.objs.size:=by simpa using hb
    subst e;exact I1.fpOk (Pk _) (I1.hok.fresh (Pk _))
   ·refine q1 φ1 H1 (Its x') Po (Kp.refl H1) aa λφ2 H2 h2 p2 t2 ag _ i=>⟨λhi=>?_,λhi=>by simpa[Its] using hi⟩
    have au:i<x'.cps.size:=by simpa using hi
    refine⟨au,λv H' y=>?_⟩;obtain⟨e,c',ec,rfl⟩:=y;subst e;have:x'.cps.toList[i]?=some c':=by simpa using ec
    exact⟨⟨.str ⟨#[c']⟩,by simp[ec],rfl⟩,Kp.refl _,ag⟩
  ·exact q1.elim
 |_=>exact q1.elim
theorem K'{E:FE}{tg:Mg}(I:Nat->Ev->PH->Prop)(e:m δ h=.ok (.str x) h)(ha:(x.cps.all λc=>decide (c<128))=true)(h0:I 0 δ h)(step:∀(q:Nat) c δ h,x.cps.toList[q]?=some c->I q δ h->∃δ1,tg (.str ⟨#[c]⟩) δ=some δ1/\(body δ1 h).W { nx:=I (q+1),ct:=I (q+1),rt:=E.rt,bk:=E.nx })(fin:∀δ h,I x.cps.size δ h->E.nx δ h):(cE (vM m) tg body δ h).W E:=by
 have go:(eK (λ_=>true) tg body (x.cps.toList.map λc=>PV.str ⟨#[c]⟩) δ h).W E:=oQ I _ 0 δ h h0 (λq y δ h _ hx hi=>⟨rfl,by
  rw[Nat.sub_zero,Pu]at hx;obtain⟨c,hc,rfl⟩:=PB.mp hx;exact step q c δ h hc hi⟩) (λδ h hi=>⟨rfl,fin δ h (by simpa using hi)⟩)
 unfold cE vM;rw[e,Rs.bind_ok];unfold ofStr;dsimp only;rw[if_pos ha];exact go
theorem Hg(K:Pi)(hK:X.K=K):OpR X (QD .Add) (λx y H Q=>∃l b xs zs,x=.ref l/\y=.ref b/\SqL K H l xs/\H b=some (.lst zs)/\xs.length+zs.length<=Pt/\∀p,H p=none->Q (.ref p) (upd H p (.lst (xs++zs)))):=by
 subst hK;intro pins s σ H x y v u Q I rx ry h;obtain⟨l,b,xs,zs,rfl,rfl,hH,hB,hz,q⟩:=h;cases rx
 cases ry
 obtain⟨its,r,⟨⟨oc,od,oda,osl⟩,n,e,h1,h2,h3⟩,z⟩:=I.list hH;obtain⟨z2,cg,n2,r2,gi,e2⟩:=I.lstM hB;have hl:=r.length;dsimp only at h1 h2 h3;subst h1 h2 h3;refine concat_meets (T:="list") ⟨_,e,rfl⟩ ⟨_,e2,rfl⟩ noFill_list_add seq_list_add F.slot_list_add F.entry_list_add (F.args_list_add_2 _ _) (list_addW l b its.toArray cg.toArray n n2 none none osl #[] (by rw[Pq,Pq];omega)) ⟨e,e2,?_⟩;have ea:its.toArray++cg.toArray=(its++cg).toArray:=by simp
 rw[ea];exact⟨.ref _,_,I.lnew (t':=s.toks) (r.append r2) (by rw[QB];omega),rfl,q _ I.fresh⟩
def lQ:PV->PV->PH->Rs PV:=λx y h=>match x,y with
 |.fl xs,.ref m=>match cM h m with
  |some ys=>if xs.length+ys.length<=Pt then .ok (.ref h.length) (h++[.lst (xs++ys)]) else .bad
  |none=>.bad
 |_,_=>.bad
set_option tactic.hygienic true in
theorem Hh{k:Nat}:OpS C k X (QD .Add) lQ:=λc=>(Hg C.K c.K).imp λx y H Q h=>by
 obtain⟨φ,h,p,q,rh,rx,ry,po⟩:=h;unfold lQ at po;split at po
 ·rename_i xs m;obtain⟨a,vs,rfl,sa,ra⟩:=rx;obtain⟨b,rfl,hb⟩:=ry;cases e:cM h m with
  |none=>rw[e]at po;exact po.elim
  |some ys=>
   rw[e]at po;obtain⟨us,h2,r2⟩:=rh.at' m b _ hb (fD e);obtain⟨hz,po⟩:=po.ite;exact⟨a,b,vs,us,rfl,rfl,sa.sq,h2,by rw[<-ra.length,<-r2.length];exact hz,λp hp=>po.lnew rh (ra.append r2) hp⟩
 ·exact po.elim
theorem Di{m:Nat}(e:h[m]?=some (.lst ys))(hz:xs.length+ys.length<=16777216):lQ (.fl xs) (.ref m) h=.ok (.ref h.length) (h++[.lst (xs++ys)]):=by
 have:cM h m=some ys:=by simp[cM,e]
 unfold lQ;simp only[this];rw[if_pos (by rw[QE];exact hz)]
open PySem PySem.Spec PyProof.Rows PySem.SeqAt PySem.W
section
variable{K:Type}[DecidableEq K]{knd:HeapKind prog w K}
theorem oZ(knd:HeapKind prog w K)(d:Addr):MeetsIn prog w (Builtin.«dict.clear» ⟨[.ref d],[]⟩) (λA R s=>∃xs,s.heap.DictOfH knd d xs/\xs.length<=Pt/\
   ∀h',h'.DictOfH knd d []->QN d s.heap h'->R (.ok (.ret .none)) { s with heap:=h' }):=
 .of_wp λA R s ⟨xs,hm,hz,r⟩=>by
  obtain⟨o,es,ep,ho,hc,hd,he,uz,hn⟩:=id hm;unfold Builtin.«dict.clear»;refine Pf ?_;unfold SM;refine Pf (QZ hm.typeIs ?_)
  show wpAny _ _ (pure d) _ _ s
  refine Ph ?_;refine Pf (Qg ho hd ?_);refine Pf ?_;unfold bearsInstanceDictMark;refine Pf (wpAny_load ho (Ph ?_));refine Pf (wpAny_updateDictKeys (hz:=by have e:=size_of_entries he;omega) ho hd ?_);have bf:(s.heap.update d (Obj.mapDictKeys λ_=>#[])).DictOfH knd d []:=
   ⟨_,_,ep+1,QF _ ho (Obj.isFreed_of_dict (Rp hd _)),hc.mapDictKeys _,Rp hd _,rfl,λ_ hx=>(List.not_mem_nil hx).elim,Sa⟩
  split
  ·exact Pf (wpAny_letGo (Ph ⟨.none,rfl,r _ bf (PR ..)⟩))
  ·exact Pf (Ph (Ph ⟨.none,rfl,r _ bf (PR ..)⟩))
end
def qI:PV->List PV->PH->Rs PV:=λx ps h=>match x,ps with
 | .ref n,[]=>match aT h n with
   |some _=>.ok .non (h.set n (.dD []))
   |none=>.bad
 |_,_=>.bad
set_option tactic.hygienic true in
theorem Hi{k:Nat}(c:Cxt C k X):MtR X "dict.clear" (rM C qI):=λpins s σ H x xs v us Q I rx rs h=>by
 obtain⟨φ,h,p,ps,rh,rp,fh,po⟩:=h;unfold qI at po;split at po
 ·rename_i n;obtain⟨a,rfl,ha⟩:=rp;cases rx
  cases xs with
  |cons _ _=>exact fh.elim
  |nil=>
  cases us with
  |cons _ _=>exact nomatch rs
  |nil=>
  split at po
  ·rename_i kvs ht;obtain⟨⟨ks,xs,r,cq,hz,hm,dd⟩,mu,nt⟩:=nL I c.K c.w rh ha ht;refine Rb PySem.F.slot_dict_clear dd.typeIs PySem.F.entry_dict_clear (PySem.F.args_dict_clear_1 _) (oZ (mZ X.prog X.w) a) ⟨xs,dd,hz,λh' e8 hs=>?_⟩;obtain⟨o,es,ep,hq,h2,h3,h4,_,h5⟩:=e8;refine⟨.non,upd H a (dDO C.w a []),jY I mu hs ⟨o,hq⟩ ⟨⟨P8 _,hm,_,.nil,o,es,ep,hq,h2,h3,?_,h5⟩,⟨o,hq⟩,?_⟩,rfl,?_⟩
   ·rw[h4];rfl
   ·rintro g1 g2 ⟨z1,z2,ws,z3,o',e9,e7,z4,z5⟩ keep;exact⟨z1,z2,ws,z3,o',e9,e7,keep _ z4,z5⟩
   ·exact po φ .non _ Po (Kp.upd nt) (rh.write ha nt ⟨[],aI,.nil⟩) rfl
  ·exact po.elim
 ·exact po.elim
theorem Ka{k:Nat}:MtG C k X "dict" aV "dict.clear" qI:=λc=>⟨Hi c,gL c⟩
theorem EZ(ht:aT h n=some kvs):qI (.ref n) [] h=.ok .non (h.set n (.dD [])):=by
 unfold qI;simp only[ht]
set_option tactic.hygienic true in
theorem A3{k:Nat}(c:Cxt C k X):cL X (.type "list") (λxs H Q=>∃(φ:List Addr)(h:PH)(n:Nat)(a:Addr)(ys:List PV),xs=[.ref a]/\RH C φ H h/\φ[n]?=some a/\sR h n=some ys/\ys.length<64/\∀l ws,H l=none->RVs C φ H ys ws->Q (.ref l) (upd H l (.lst ws))):=by
 intro pins s σ H xs us Q I r h;obtain⟨φ,h,n,a,ys,rfl,rh,ha,ev,i6,q⟩:=h;obtain⟨u,rfl,ru⟩:=vals1 r;cases ru
 unfold sR at ev;split at ev
 ·rename_i d hv;cases eo:h[d]? with
  |none=>rw[eo]at ev;cases ev
  |some o=>
   rw[eo]at ev;have ek:nR o=some ys:=ev;obtain⟨bb,hb,hH⟩:=rh.at' n a _ ha hv;obtain⟨ks,u,oc,es,ep,W⟩:=A1 c I rh hb eo (A2 ek);have gf:PySem.W.KdlKeysView s.heap a bb:=(I.hok a _ hH).1;have rk:=W.keys _ ek;have lk:ys.length=ks.length:=by have:=rk.length;simpa using this
   refine PySem.W.kdl_call (Dg (r:=a) W.data) (I.ok.hd c.calm) ⟨gf,W.get⟩ (by rw[<-W.len,<-lk,QE];omega) λh' tk acc c' hk hS bx=>?_;have all:∀(l:List (V×V))(m:List QX),l.length=m.length->(∀(i:Nat)(e:QX),m[i]?=some e->∃kv,l[i]?=some kv/\RelV kv.1 e.key)->aJ (l.map (·.1)) (m.map (·.key)):=by
    intro l
    induction l with
    |nil=>intro m hl _;cases m with|nil=>exact .nil|cons _ _=>simp at hl
    |cons x l ih=>
     intro m hl hr;cases m with
     |nil=>simp at hl
     |cons e m=>
      obtain⟨kv,e1,e2⟩:=hr 0 e rfl;have:x=kv:=by simpa using e1
      subst this;refine .cons e2 (ih m (by simpa using hl) λi e' he=>?_)
      obtain⟨kv,f1,f2⟩:=hr (i+1) e' (by simpa using he)
      exact⟨kv,by simpa using f1,f2⟩
   have rv:aJ (ks.map (·.1)) acc.toList:=by
    rw[B1 bx];refine all ks es.toList (by rw[W.len];simp) λi e he=>?_;have hi:i<es.size:=by have:=(Pg.mp he).1;simpa using this
    obtain⟨kv,f1,f2,_⟩:=W.ent i hi;have:es[i]=e:=by
     rw[RJ]at he;have h2:es[i]?=some es[i]:=by simp[hi]
     rw[h2]at he;exact PP he
    rw[this]at f2;exact⟨kv,f1,f2⟩
   refine⟨.ref s.heap.objs.size,_,I.laid (t':=tk) (o:=.lst (ks.map (·.1))) hk (Pk _) ⟨?_,acc.toList,c',rv,by rw[Array.toArray_toList];exact hS⟩,rfl,q _ _ I.fresh rk⟩;rw[Pl,<-lk,QE];omega
 ·cases ev
def pA:List PV->PH->Rs PV:=λxs h=>match xs with
 |[.ref n]=>match sR h n with
  |some ys=>if ys.length<64 then .ok (.ref h.length) (h++[.lst ys]) else .bad
  |none=>.bad
 |_=>.bad
set_option tactic.hygienic true in
theorem Hj{k:Nat}:kJ C k X (.type "list") pA:=λc=>cL.imp (A3 c) λvs H Q h=>by
 obtain⟨φ,h,ps,rh,rv,po⟩:=h;unfold pA at po;split at po
 ·rename_i n;split at po
  ·rename_i ys e;obtain⟨hc,po⟩:=po.ite;obtain⟨v,rfl,rx⟩:=rv.one;obtain⟨a,rfl,ha⟩:=rx;exact⟨φ,h,n,a,ys,rfl,rh,ha,e,hc,λl ws hl cw=>po.lnew rh cw hl⟩
  ·exact po.elim
 ·exact po.elim
theorem Dj{d:Nat}(e:h[n]?=some (.vw 2 d))(e2:h[d]?=some o)(ek:nR o=some ys)(h1:ys.length<64):pA [.ref n] h=.ok (.ref h.length) (h++[.lst ys]):=by
 have ev:sR h n=some ys:=by simp[sR,e,e2,ek]
 simp only[pA,ev,h1,if_true]
open PySem PySem.Spec PyProof.Rows
def rvX(n i:Nat):Int:=if i<n then((n-1-i:Nat):Int) else -1
def Kb(K:Pi)(l:Addr)(n:Nat):It:=
 ⟨λi H=>∃vs v,SqL K H l vs/\vs.length=n/\vs.reverse[i]?=some v,λi H x H'=>H'=H/\∀vs,SqL K H l vs->vs.reverse[i]?=some x,λi _=>n<=i⟩
theorem F0(a it:Addr)(n:Nat):Turn P w K tg (Kb K a n) [it] it (λi h=>h.IsRevIter it a (rvX n i)) where
 mem:=by simp
 obj:=λi h st b hb=>by
  have e:b=it:=by simpa using hb
  subst e;obtain⟨o,e,c,d⟩:=st;exact⟨o,e,λv z=>by rw[d]at z;cases z⟩
 keep:=λi h h' st k=>st.at λo e=>k it (by simp) o e
 item:=by
  intro X hP hw hK hc i pins s σ H E I hf st hg;subst hP hw hK;obtain⟨xs,x,hq,hn,hx⟩:=hg;obtain⟨its,rv,p,hz⟩:=I.list hq;have hi:=(Pg.mp hx).1;rw[QJ]at hi;have cz:xs[n-1-i]?=some x:=by rw[List.getElem?_reverse hi]at hx;rw[<-hn];exact hx
  obtain⟨u,hu,ru⟩:=rv.get cz;obtain⟨f0,f1,f2,f3,f4,f5⟩:=hf it (by simp);have st:s.heap.IsRevIter it a (rvX n i):=st;rw[show rvX n i=((n-1-i:Nat):Int) from if_pos (by omega)]at st
  refine wpAny_pyNext_rev_item st p.isList (x:=u) (by simpa using hu) λh' b0 sb=>?_
  have I1:Inv X pins σ H { s with heap:=h' }:=I.turned (t':=s.toks) (λb o hb e=>(sb.2 b hb).trans e) f0 f1 f3 f4 f5;obtain⟨o,e,c,d⟩:=id b0;rw[show((n-1-i:Nat):Int)-1=rvX n (i+1) by unfold rvX;split <;> omega]at b0;exact⟨u,rfl,uF (s:={ s with heap:=h' }) e c d (by decide) ⟨x,H,I1,ru,⟨rfl,λys hy=>by rw[I.list_inj hy hq];exact hx⟩,b0,λb hb=>(hf b hb).1⟩⟩
 done:=by
  intro X hP hw hK hc i pins s σ H E I hf st hg;subst hP hw hK;have hg:n<=i:=hg;obtain⟨f0,f1,f2,f3,f4,f5⟩:=hf it (by simp);have st:s.heap.IsRevIter it a (rvX n i):=st;rw[show rvX n i=-1 from if_neg (by omega)]at st
  exact wpAny_pyNext_rev_end (I.ok.hd hc) st λh' eb=>⟨rfl,I.turned (t':=s.toks) (λb o hb e=>eb b o hb e) f0 f1 f3 f4 f5⟩
 self:=λ_ _ _ _ _ st h=>wpAny_pyIter_revIter st h
def iRv(X:Cx)(ta:TA):TI:=λσ H R=>ta σ H λvs H1=>∃l xs,vs=[.ref l]/\SqL X.K H1 l xs/\R (Kb X.K l xs.length) H1
theorem Kc{a:Expr}{ta:TA}{p:Pos}(hg:Gl X "reversed")(hm:X.mg "reversed" = none)(ha:PA X [a] ta)(hs:PJ [a] X.env=[(false,eval a X.env)]:=by rfl):
  PI X tg (.Call (.Name "reversed" p) [a] [] pos) (iRv X ta):=by
 intro pins s σ H R I h;refine Call_ (kR I hg hm boot_reversed (Sg (thn (ha pos pins s σ H _ I h) λus s1 hz=>?_) hs rfl));obtain⟨vs,H1,I1,r1,q1⟩:=hz;obtain⟨l,xs,e,hq,q⟩:=q1;subst e;cases r1 with
 |cons r rr=>
  cases rr
  cases r
  obtain⟨its,rv,pl,hz⟩:=I1.list hq;refine call_reversed_list pl.isList ?_;have st:(s1.heap.push (revObj l ((its.toArray.size:Int)-1))).IsRevIter s1.heap.objs.size l ((its.toArray.size:Int)-1):=⟨_,Pr _ rfl,rfl,rfl⟩;refine wpAny_pyIter_revIter st ?_;have hl:=rv.length;have e0:((its.toArray.size:Nat):Int)-1=rvX xs.length 0:=by
   rw[Pq,<-hl];unfold rvX;split <;> omega
  rw[e0]at st⊢;refine⟨s1.heap.objs.size,[s1.heap.objs.size],_,_,H1,rfl,I1.kept (t':=s1.toks) λb o e=>Pn _ e,F0 l _ xs.length,st,λb hb=>?_,q⟩;have e:b=s1.heap.objs.size:=by simpa using hb
  subst e;exact I1.fpOk (Pk _) (I1.hok.fresh (Pk _))
def rvI:List PV->PH->Rs Wk:=λps h=>match ps with
 | [.ref n]=>(match aL h n with
   |some xs=>.ok ⟨xs.reverse,sE n xs⟩ h
   |none=>.bad)
 |_=>.bad
def B4(ms:Ma):Mi:=λδ h=>(ms δ h).bind rvI
set_option tactic.hygienic true in
theorem MJ{k:Nat}{x:Expr}{p:Pos}(ha:SA C k X [x] ms)(hb:("reversed" : Str)∈C.bs:=by decide)(hg:Gl X "reversed" := by rfl)(hs:PJ [x] X.env=[(false,eval x X.env)]:=by rfl):
  SI C k X tg (.Call (.Name "reversed" p) [x] [] pos) (B4 ms):=λc=>
 (Kc hg (c.bn _ hb) (ha c) hs).imp λσ H R h=>by
  obtain⟨φ,δ,h,rh,re,p⟩:=h;refine⟨φ,δ,h,rh,re,(postA.bindI p).imp ?_⟩;rintro vs H1 ⟨φ1,xs,h1,p1,t1,aa,ab,q1⟩;unfold rvI at q1;split at q1
  ·rename_i n;obtain⟨v,rfl,rx⟩:=ab.one;obtain⟨a,rfl,ha'⟩:=rx;cases e:aL h1 n with
   |none=>rw[e]at q1;exact q1.elim
   |some xs=>
    rw[e]at q1;obtain⟨a2,us,aq,sa,ra⟩:=bF aa e;rw[ha']at aq;cases aq;rw[<-c.K]at sa;refine⟨a,us,rfl,sa,q1 φ1 H1 (Kb X.K a us.length) Po (Kp.refl H1) aa λφ2 H2 h2 p2 t2 ag hg i=>?_⟩;have hg:(match aL h2 n with|some ys=>PV.beqs ys xs|none=>false)=true:=hg
    cases e2:aL h2 n with
    |none=>rw[e2]at hg;cases hg
    |some ys=>
     rw[e2]at hg;have t7:=PV.beqs_eq hg;subst t7;obtain⟨a3,om,n8,su,ru⟩:=bF ag e2;rw[dQ p2 ha']at n8;cases n8;rw[<-c.K]at su;have hl:=ru.length;have e5:om.length=us.length:=by rw[<-hl,ra.length]
     show(i<ys.reverse.length->_)/\(ys.reverse.length<=i->_)
     rw[QJ];refine⟨λhi=>?_,λhi=>by show us.length<=i;omega⟩;have k7:i<om.reverse.length:=by rw[QJ];omega
     refine⟨⟨om,om.reverse[i],su,e5,by rw[Rl k7]⟩,λy H' yl=>?_⟩;obtain⟨rfl,hy⟩:=yl;obtain⟨pp,ep,rp⟩:=ru.reverse.get (hy om su);exact⟨⟨pp,ep,rp⟩,Kp.refl _,ag⟩
  ·exact q1.elim
def xG(f:Fn):Me:=λ_ h=>f [] h
theorem Hk{k:Nat}{p:Pos}{f:Fn}(D:Def C.K X.mg x st a fd ps)(G:bV X.prog X.w C.K X.mg X.base CX0 j a fd ps (spM C 0 f))(hj:j<=k:=by decide)(hg:Gl X x:=by rfl)(bq:(x == ("__debug__" : Str))=false:=by decide):SE C k X (.Call (.Name x p) [] [] pos) (xG f):=λc=>by
 have e1:=c.K;have D':Def X.K X.mg x st a fd ps:=by rw[e1];exact D
 have G':bV X.prog X.w X.K X.mg X.base CX0 j a fd ps (spM C 0 f):=by rw[e1];exact G
 refine(DL G' (c.room.mono hj) hg D'.mg D'.fn.kp D'.bd .nil yN bq).imp λσ H Q h=>?_;obtain⟨φ,δ,h,rh,re,p⟩:=h;exact⟨φ,h,[],rh,trivial,rfl,p⟩
@[simp]theorem KG{f:Fn}:xG f δ h=f [] h:=(rfl)
def GEs(P:Params):List (Str×Str)->List QX->Prop
 |[],[]=>True
 |kv::r,e::es=>e.hash=PyData.keyHash P kv.1/\(∃t,e.key=.str kv.1 t)/\(∃t,e.val=.str kv.2 t)/\GEs P r es
 |_,_=>False
def MK(C:MC)(a:Addr)(kvs:List (Str×Str)):Prop:=(a == Qm)=false/\(kvs.map λkv=>(Ru kv.1:Key)).Nodup/\∃es ep,C.K.lookup a=some ⟨.type "dict",none,.dict es ep,#[]⟩/\GEs C.w.params kvs es.toList
def sT:List (Str×Str)->Str->Option Str
 |[],_=>none
 |kv::r,z=>if kv.1=z then some kv.2 else sT r z
def gdV(o:Option Str):PV:=match o with
 |some v=>.str v
 |none=>.non
def vGd(kvs:List (Str×Str)):PV->PH->Rs PV:=λp h=>match p with
 |.str z=>.ok (gdV (sT kvs z)) h
 |_=>.bad
theorem vN{P:Program}{w:World}:∀{kvs:List (Str×Str)}{es:List QX},GEs w.params kvs es->∃vs:List (Key×Value),Pairs (aP P w) es vs/\vs.map (·.1)=(kvs.map λkv=>(Ru kv.1:Key))/\(∀e∈es,∃k,(aP P w).is k e.key=true/\e.hash=(aP P w).hash k)/\
  ∀z:Str,match sT kvs z with
   |some v=>∃t,valueAt vs (Ru z:Key)=some (.str v t)
   |none=>valueAt vs (Ru z:Key)=none
 |[],[],_=>⟨[],.nil,rfl,(λ_ h=>nomatch h),λz=>rfl⟩
 |kv::r,e::es,⟨h1,⟨t1,h2⟩,⟨t2,h3⟩,h4⟩=>by
  obtain⟨vs,p,q,s,v⟩:=vN (P:=P) h4;have hi:(aP P w).is (Ru kv.1:Key) e.key=true:=by rw[h2];exact pR P w _ _
  refine⟨((Ru kv.1:Key),e.val)::vs,.cons hi rfl p,by rw[Pv,Pv,q],λx hx=>?_,λz=>?_⟩
  ·rcases PC.mp hx with rfl|hx
   ·exact⟨_,hi,h1⟩
   ·exact s x hx
  ·have hv:=v z;unfold valueAt at hv⊢;unfold sT;rw[QS]
   by_cases c:kv.1=z
   ·subst c;simp;exact⟨t2,h3⟩
   ·have c2:¬ (Ru kv.1:Key)=Ru z:=λq=>c (Sum.inr.inj q);simp only[if_neg c,decide_eq_false c2];exact hv
 |[],_::_,h=>h.elim
 |_::_,[],h=>h.elim
theorem Hl{k:Nat}{kvs:List (Str×Str)}{p:Pos}(hm:X.mg x=some (.ref a))(g:MK C a kvs)(he:SE C k X e m)(hg:Gl X x:=by rfl)(hd:(x == ("__debug__" : Str))=false:=by decide)(a8:R1 (.Name x p) "get" X.env (eval (.Name x p) X.env)=eval (.Name x p) X.env:=by rfl)(dg:((backTo af (PJ [e] X.env)).all (λx=>!x.1)&&(backToKw af (keywordEach [] X.env)).all (λx=>x.1.isSome)
   && decide (([e]:List Expr).length+([]:List Keyword).length+(if([]:List Keyword).isEmpty then 0 else 1)<30))=true:=by rfl)(a9:(apos.endLine == af.line)=true:=by rfl)(hs:backTo af (PJ [e] X.env)=[(false,eval e X.env)]:=by rfl):SE C k X (.Call (.Attribute (.Name x p) "get" apos) [e] [] af) (mUn (vGd kvs) m):=λc pins s σ H Q I q=>by
 obtain⟨φ,δ,h,rh,re,po⟩:=q;obtain⟨g1,g2,es,ep,g3,g4⟩:=g;rw[<-c.w]at g4;rw[<-c.K]at g3;obtain⟨vs,p1,p2,p3,p4⟩:=vN (P:=X.prog) g4;have dd:∀{H' s'},Inv X pins σ H' s'->s'.heap.DictOf (aP X.prog X.w) a vs:=λI'=>⟨_,es,ep,I'.bk _ _ (I'.mod.kin _ _ g3),⟨rfl,rfl,rfl⟩,rfl,λx hx=>p3 x (by simpa using hx),p1,by rw[p2];exact g2⟩
 refine wpAny_Call_method a8 dg a9 QL Qp PySem.F.type_dict_get (thn (Bm (v:=.ref a) hg hm rfl hd pins s σ H (λv H'=>v=.ref a/\H'=H) I ⟨rfl,rfl⟩) λu s1 hz=>?_);obtain⟨x,H1,I1,rx,ex,eH⟩:=hz;subst ex eH;obtain rfl:u=P7 a:=rx;refine⟨(dd I1).typeIs,λb eb=>?_,?_⟩
 ·cases eb
  exact⟨_,I1.bk _ _ (I1.mod.kin _ _ g3),rfl⟩
 rw[hs];refine Sb rfl (Calls.evalArgs_plain (Calls.spliced_cons (thn (he c pins s1 σ H1 _ I1 ⟨φ,δ,h,rh,re,post.bind po⟩) ?_)));rintro iv s2 ⟨y,H2,I2,ry,φ2,py,h2,p22,t2,ag,bo,q2⟩;refine Calls.spliced_nil ?_;cases py with
 |str z=>
  obtain rfl:y=.str z:=bo;have q2:post C φ2 H2 (.ok (gdV (sT kvs z)) h2) Q:=q2;have zb:RelV (kV (Ru z:Key)) iv:=ry;refine Rb Qp (dd I2).typeIs QR (R5 _ _) (meets_dict_get (aP X.prog X.w) a (mN zb) g1) ⟨_,(dd I2).mapOf,?_⟩;have hz:=p4 z;cases e1:sT kvs z with
  |none=>
   rw[e1]at hz q2;rw[hz];exact⟨.non,H2,I2.tok _,rfl,q2.val ag rfl⟩
  |some v=>
   rw[e1]at hz q2;obtain⟨t,hz⟩:=hz;rw[hz];exact⟨.str v,H2,I2.tok _,⟨t,rfl⟩,q2.val ag rfl⟩
 |_=>exact q2.elim
open PySem PySem.Spec PyProof.Rows PySem.W
def cI:Ms:=λ_ _=>.bad
theorem ML{k:Nat}:SSt C k X st cI:=λc _ _ σ H _ I h=>by
 obtain⟨φ,δ,h,rh,re,p⟩:=h;exact p.elim
open PySem PySem.Spec PyProof.Rows
theorem getD_none{α:Type}{o:Array (Option α)}{x:α}(h:(o.getD j (some x)).isNone=true):o[j]?=some none:=by
 by_cases q:j<o.size
 ·have e:o.getD j (some x)=o[j]:=by simp[Array.getD,q]
  rw[e]at h;rw[QT q,Option.isNone_iff_eq_none.mp h]
 ·have e:o.getD j (some x)=some x:=by simp[Array.getD,q]
  rw[e]at h;cases h
theorem sub_tuple_tuple:isSubtype (.type "tuple") (.type "tuple")=pure true:=isSubtype_tuple_tuple
end L2
namespace K71
open PySem L2
noncomputable section
def xH:Ms:=
 (aG (aS 2 (aB iW (aB wJ (aB bT (aB bT (mV 0) (aB wJ (mC (.int 7919)) (mV 1))) (mC (.int 1))) (mC (.int 48271))) (mC (.int 2147483647))))
 (bD (aB iW (aB wJ (mV 2) (aB bT (aB CP (mV 2) (mC (.int 1009))) (mC (.int 69621)))) (mC (.int 2147483647)))))
def bX:Fn:=mFn 3 xH
def pB:Ms:=
 (aS 3 (aB bT (mV 3) (aB vAt (mC (.str "abcdefghijklmnopqrstuvwxyz")) (aB iW (aO 2 bX (aA (mV 0) (aA (aB bT (aB bT (mC (.int 60)) (aB wJ (mC (.int 9)) (mV 2))) (mV 4)) aC))) (mC (.int 26))))))
def pC:Ms:=
 (bK (aQ (aB iD (mV 3) (mV 1)))
    (aS 3 (aB bT (mSl (mV 3) nA (mP (mUn CQ (mC (.int 1))))) (mV 5)))
    cQ)
def pD:Ms:=
 (aG (aS 3 (mC (.str "")))
  (aG (cE (qD (aA (aB bT (mC (.int 1)) (aB iW (aO 2 bX (aA (mV 0) (aA (aB bT (mC (.int 50)) (mV 2)) aC))) (mC (.int 8)))) aC)) (gN 4) pB)
  (aG (cE (vM (mC (.str "cdefg"))) (gN 5) pC)
  (nE (mMt isL (onL cK) (mV 1) (aA (mV 3) aC))))))
def xI:Ms:=
 (aG (aS 1 (nB aC))
 (aG (cE (qD (aA (mC (.int 3)) aC)) (gN 2) pD)
 (bD (mCB oU (aA (mV 1) aC)))))
def xJ:Fn:=mFn 6 xI
def F1:Ms:=
 (aG (aS 3 (aB iW (aO 2 bX (aA (mV 0) (aA (mC (.int 2)) aC))) (mC (.int 8))))
 (aG (aS 4 (mCB CV (aA (mC (.int 1)) (aA (aB tZ (aB tZ (mV 2) (mC (.int 1))) (aB iW (aO 2 bX (aA (mV 0) (aA (mC (.int 3)) aC))) (mC (.int 6)))) aC))))
 (aG (bK (aQ (aB jH (mV 3) (mC (.int 3))))
  (bD (bZ (aA (mC (.str "back")) (aA (mV 4) (aA (aB bT (mV 4) (aB iW (aO 2 bX (aA (mV 0) (aA (mC (.int 4)) aC))) (mC (.int 5)))) aC)))))
  cQ)
 (aG (bK (jF (aQ (aB vEq (mV 3) (mC (.int 3)))) (aQ (aB vEq (aB iW (aO 2 bX (aA (mV 0) (aA (mC (.int 5)) aC))) (mC (.int 2))) (mC (.int 1)))))
  (bD (bZ (aA (mC (.str "settle")) aC)))
  cQ)
 (aG (bK (aQ (aB jH (mV 3) (mC (.int 6))))
  (bD (bZ (aA (mC (.str "make")) (aA (mC (.str "count")) (aA (bZ (aA (mC (.str "")) (aA (mC (.int 0)) aC))) (aA (aB D5 (aB vAt (mC (.str "abcdefgh")) (aB iW (aO 2 bX (aA (mV 0) (aA (mC (.int 5)) aC))) (mC (.int 8)))) (aB bT (mC (.int 1)) (aB iW (aO 2 bX (aA (mV 0) (aA (mC (.int 6)) aC))) (mC (.int 12))))) aC))))))
  cQ)
 (bD (bZ (aA (mC (.str "add")) (aA (bZ (aA (mV 1) (aA (mV 4) aC))) (aA (aB tZ (aB iW (mV 0) (aB tZ (aB wJ (mC (.int 2)) (aB Eg (mC (.int 10)) (mC (.int 40)))) (mC (.int 1)))) (aB tZ (aB Eg (mC (.int 10)) (mC (.int 40))) (mC (.int 1)))) aC))))))))))
def F2:Fn:=mFn 5 F1
def pE:Ms:=
 (eO (aB wJ (aB CP (aB iW (aB CP (mCB wR (aA (mSl (mV 0) nA (mP (mC (.int 1)))) aC)) (mC (.int 4))) (mC (.int 3))) (mC (.int 2))) (aB Eg (mC (.int 10)) (mC (.int 9)))) (mV 2) (mV 3))
def gP:Ms:=
 (aG (aS 8 (mCB CV (aA (mC (.int 0)) (aA (aB tZ (aB bT (aB vAt (mV 2) (aB vAt (mV 1) (mV 7))) (mC (.int 2))) (aB iW (aO 2 bX (aA (mV 5) (aA (aB bT (mC (.int 7)) (mV 7)) aC))) (mC (.int 6)))) aC))))
   (aG (bK (aQ (aB vEq (aB vAt (mV 1) (mV 7)) (mV 3)))
    (aS 8 (aB vAt (mV 2) (mV 3)))
    cQ)
   (bK (aQ (aB vGt (mV 8) (mC (.int 0))))
    (nE (mMt isL (onL cK) (mV 6) (aA (bZ (aA (aB vAt (mV 1) (mV 7)) (aA (mV 8) aC))) aC)))
    cQ)))
def gQ:Ms:=
 (aG (aS 3 (aB vAt (mV 1) (aB iW (aO 2 bX (aA (mV 5) (aA (mC (.int 1)) aC))) (mC (.int 3)))))
  (aG (aS 6 (nB aC))
  (aG (cE (qD (aA (mC (.int 3)) aC)) (gN 7) gP)
  (aG (eO (aB bT (aB vAt (mV 2) (mV 3)) (mC (.int 1))) (mV 2) (mV 3))
  (nE (mMt isL (onL cK) (mV 4) (aA (bZ (aA (bZ (aA (mV 3) (aA (aB vAt (mV 2) (mV 3)) aC))) (aA (mCB oO (aA (mV 6) aC)) (aA (aO 3 F2 (aA (mV 5) (aA (mV 3) (aA (aB vAt (mV 2) (mV 3)) aC)))) aC)))) aC)))))))
def xK:Ms:=
 (aG (aS 1 (aO 1 xJ (aA (aB vAt (aB lQ (mV 0) (nB (aA (mC (.int 0)) aC))) (mC (.int 0))) aC)))
 (aG (aS 2 bM)
 (aG (cE (aU (mV 1)) (gN 3) pE)
 (aG (aS 4 (nB aC))
 (aG (cE (aU (mSl (mV 0) nA (mP (mC (.int 40))))) (gN 5) gQ)
 (bD (mV 4)))))))
def xM:Fn:=mFn 9 xK
def gR:Ms:=
 (aG (bK (Ej (aQ (aB vNe (aB vAt (aB vAt (mV 4) (mC (.int 0))) (mC (.int 0))) (aB vAt (aB vAt (mV 2) (mC (.int 0))) (mC (.int 0))))) (aQ (aB vLe (aB vAt (aB vAt (mV 4) (mC (.int 0))) (mC (.int 1))) (aB vAt (aB vAt (mV 2) (mC (.int 0))) (mC (.int 1))))))
    El
    cQ)
   (bK (aQ (aB vEq (aB vAt (aB vAt (mV 4) (mC (.int 2))) (mC (.int 0))) (mC (.str "settle"))))
    (nE (qN aV qI (mV 3)))
    (bK (jF (aQ (aB vEq (aB vAt (aB vAt (mV 4) (mC (.int 2))) (mC (.int 0))) (mC (.str "back")))) (aQ (AN vLe vLe (aB vAt (aB vAt (mV 4) (mC (.int 2))) (mC (.int 1))) (aB vAt (aB vAt (mV 2) (mC (.int 0))) (mC (.int 1))) (aB vAt (aB vAt (mV 4) (mC (.int 2))) (mC (.int 2))))))
     (eO (mC (.bl true)) (mV 3) (aB vAt (mV 4) (mC (.int 0))))
     cQ)))
def pF:Ms:=
 (aG (aS 3 bM)
  (aG (cE (B4 (aA (mV 0) aC)) (gN 4) gR)
  (bK (aQ (aB vNe (aB vAt (aB vAt (mV 2) (mC (.int 2))) (mC (.int 0))) (mC (.str "settle"))))
   (eO (mCB pA (aA (qN aV oY (mV 3)) aC)) (mV 1) (aB vAt (mV 2) (mC (.int 0))))
   cQ)))
def xN:Ms:=
 (aG (aS 1 bM)
 (aG (cE (aU (mV 0)) (gN 2) pF)
 (bD (mV 1))))
def xO:Fn:=mFn 5 xN
def kE:Ms:=
 (bK (jF (aQ (aB bG (mV 4) (mV 2))) (aQ (aB bG (aB vAt (mV 3) (mC (.int 0))) (mV 2))))
    (eO (mV 4) (mV 2) (aB vAt (mV 3) (mC (.int 0))))
    cQ)
def pG:Ms:=
 (cE (aU (mMt aV nM (mV 1) (aA (aB vAt (mV 3) (mC (.int 0))) (aA (nB aC) aC)))) (gN 4) kE)
def xP:Ms:=
 (aG (aS 1 (aO 1 xO (aA (mV 0) aC)))
 (aG (aS 2 bM)
 (aG (cE (B4 (aA (mV 0) aC)) (gN 3) pG)
 (bD (mV 2)))))
def xQ:Fn:=mFn 5 xP
def eT:Ms:=
 (aG (eN "made" (mV 0) bM)
 (eN "failed" (mV 0) (nB aC)))
def eU:Fn:=mFn 1 eT
def kO:Ms:=
 cI
def jM:Ms:=
 (aG (eN "made" (mV 0) bM)
 (aG (cE (aU (mV 1)) (gTp 4 (gCn (gN 3) (gCn (gN 4) (gCn (gN 5) (gCn (gN 6) gNl))))) kO)
 (eN "failed" (mV 0) (mCB nD (aA (mV 2) aC)))))
def fV:Fn:=mFn 7 jM
def xR:Str->Option Fn:=λ(z:Str)=>if z=("Tree" : Str) then some fV else(λ_=>none) z
def eP:Ms:=
 (aG cI
  cI)
def cS:Ms:=
 (aG (lG (mV 1) (gTp 2 (gCn (gN 2) (gCn (gN 3) gNl))))
 (aG (eN "tree" (mV 0) (iT "Tree" 0 eU aC))
 (aG (nE (fI "fill" 2 xR (mUn (dW "tree") (mV 0)) (aA (cF [none] (aU (mV 2)) (gN 0) lH (mSl (mV 0) nA (mP (mC (.int 4))))) (aA (mV 3) aC))))
 (aG (eN "leaves" (mV 0) bM)
 (cE (aU (mV 2)) (gTp 5 (gCn (gN 4) (gCn (gN 5) (gCn (gN 6) (gCn (gN 7) (gCn (gN 8) gNl)))))) eP)))))
def cT:Fn:=mFn 9 cS
def xS:Ms:=
 (bD (bZ (aA (nB aC) (aA (nB aC) aC))))
def qX:Fn:=mFn 0 xS
def cU:Ms:=
 (aG (eN "undone" (mV 0) bM)
 (aG (eN "placers" (mV 0) bM)
 (aG (eN "numbers" (mV 0) bM)
 (aG (eN "writers" (mV 0) bM)
 (eN "signs_left" (mV 0) bM)))))
def cV:Fn:=mFn 1 cU
def iJ:Ms:=
 (aG (aS 2 (aB vAt (mV 1) (mC (.int 2))))
 (bK (aQ (aB vEq (aB vAt (mV 2) (mC (.int 0))) (mC (.str "add"))))
  (BS "total" (mV 0) (aB vAt (mV 2) (mC (.int 2))))
  cQ))
def dR:Fn:=mFn 3 iJ
def fJ:Ms:=
 (aG (bK (aQ (aB vEq (mV 1) (mC (.tup [.str "",.int (0)]))))
  (bD (mC (.str "map")))
  cQ)
 (bD (mIf (aQ (aB iD (mV 1) (mUn (dW "made") (mV 0)))) (aB vAt (aB vAt (mUn (dW "made") (mV 0)) (mV 1)) (mC (.int 0))) (mC .non))))
def bN:Fn:=mFn 2 fJ
def dX:Str->Option Fn:=λ(z:Str)=>if z=("Tree" : Str) then some bN else(λ_=>none) z
def iK:Ms:=
 (bD (aB vEq (fI "kind_of" 1 dX (mV 0) (aA (mV 1) aC)) (mIf (aQ (mCB uA (aA (mV 2) (aA (mC (.ty "str")) aC)))) (mC (.str "map")) (mC (.str "row")))))
def dS:Fn:=mFn 3 iK
def sU:Ms:=
 (aG (lG (mV 0) (gTp 2 (gCn (gN 2) (gCn (gN 3) gNl))))
 (aG (lG (mV 1) (gTp 2 (gCn (gN 4) (gCn (gN 5) gNl))))
 (bD (aB bT (mV 2) (bZ (aA (bZ (aA (mV 3) (aA (mV 4) (aA (mV 5) (aA (mC (.int 0)) aC))))) aC))))))
def sV:Fn:=mFn 6 sU
def lR:Ms:=
 (bD (mIf (aQ (mCB uA (aA (mV 0) (aA (mC (.ty "str")) aC)))) (mV 0) (aO 2 sV (aA (mV 0) (aA (mV 1) aC)))))
def iL:Fn:=mFn 2 lR
def sW:Str->Option Fn:=λ(z:Str)=>if z=("Tree" : Str) then some dS else(λ_=>none) z
def dY:Ms:=
 (aG (lG (mV 2) (gTp 4 (gCn (gN 3) (gCn (gN 4) (gCn (gN 5) (gCn (gN 6) gNl))))))
 (aG (bK (Bx (aQ (fI "takes" 2 sW (mV 0) (aA (mV 5) (aA (mV 6) aC)))))
  cI
  cQ)
 (aG (eO (bZ (aA (mV 4) (aA (mV 5) (aA (aO 2 iL (aA (mV 6) (aA (mV 1) aC))) aC)))) (mUn (dW "made") (mV 0)) (mV 1))
 (bD (mC (.str "done"))))))
def dZ:Fn:=mFn 7 dY
def iM:Str->Option Fn:=λ(z:Str)=>if z=("Tree" : Str) then some dZ else(λ_=>none) z
def jN:Ms:=
 (aG (lG (mV 1) (gTp 3 (gCn (gN 2) (gCn (gN 3) (gCn (gN 4) gNl)))))
 (aG (bK (aQ (aB vEq (aB vAt (mV 4) (mC (.int 0))) (mC (.str "make"))))
  (bD (fI "hear_make" 2 iM (mV 0) (aA (mV 2) (aA (mV 4) aC))))
  cQ)
 (aG cI
 (aG cI
 cI))))
def dH:Fn:=mFn 5 jN
def fK:Ms:=
 (aG (lG (mV 1) (gTp 3 (gCn (gN 2) (gCn (gN 3) (gCn (gN 4) gNl)))))
 (bK (aQ (aB vEq (aB vAt (mV 4) (mC (.int 0))) (mC (.str "make"))))
  (eO (mV 2) (mUn (dW "placers") (mV 0)) (mV 2))
  (bK (aQ (aB iD (aB vAt (mV 4) (mC (.int 0))) (bZ (aA (mC (.str "move")) (aA (mC (.str "drop")) aC)))))
   (aG cI
   cI)
   (bK (aQ (aB vEq (aB vAt (mV 4) (mC (.int 0))) (mC (.str "choose"))))
    (aG cI
    cI)
    (bK (aQ (aB vEq (aB vAt (mV 4) (mC (.int 0))) (mC (.str "put"))))
     cI
     (bK (aQ (aB vEq (aB vAt (mV 4) (mC (.int 0))) (mC (.str "take"))))
      cI
      (bK (aQ (aB vEq (aB vAt (mV 4) (mC (.int 0))) (mC (.str "write"))))
       cI
       (bK (aQ (aB vEq (aB vAt (mV 4) (mC (.int 0))) (mC (.str "cut"))))
        cI
        cQ))))))))
def bO:Fn:=mFn 5 fK
def eC:Ms:=
 (eN "total" (mV 0) (mC (.int 0)))
def gU:Fn:=mFn 1 eC
def pH:Ms:=
 (aG (bK (aQ (aB vEq (mV 0) (mC (.str "count"))))
  (bD (iT "Count" 0 gU aC))
  cQ)
 (aG cI
 (aG cI
 (aG cI
 cI))))
def pI:Fn:=mFn 1 pH
def cW:Ms:=
 (aG (aS 3 (aO 1 pI (aA (mV 2) aC)))
 (bK (aQ (aB kZ (mV 3) (mC .non)))
  (eO (mV 3) (mUn (dW "leaves") (mV 0)) (mV 1))
  cQ))
def cX:Fn:=mFn 4 cW
def iN:Str->Option Fn:=λ(z:Str)=>if z=("Count" : Str) then some dR else(λ(z:Str)=>if z=("Tree" : Str) then some dH else(λ(z:Str)=>if z=("Undoing" : Str) then some bO else(λ_=>none) z) z) z
def jO:Str->Option Fn:=λ(z:Str)=>if z=("Folding" : Str) then some cX else(λ_=>none) z
def cO:Ms:=
 (aG (aS 2 (fI "hear" 1 iN (mUn (dW "tree") (mV 0)) (aA (mV 1) aC)))
 (aG (aS 3 (aB vAt (mV 1) (mC (.int 2))))
 (aG (bK (jF (aQ (aB vEq (aB vAt (mV 3) (mC (.int 0))) (mC (.str "make")))) (aQ (aB vEq (mV 2) (mC (.str "done")))))
  (nE (fI "add_leaf" 2 jO (mV 0) (aA (aB vAt (mV 1) (mC (.int 0))) (aA (aB vAt (mV 3) (mC (.int 1))) aC))))
  cQ)
 (bD (mV 2)))))
def bL:Fn:=mFn 4 cO
def lU:Ms:=
 (bD (mUn (vGd [("add","count"),("choose","choice"),("put","bag"),("take","bag"),("write","text"),("cut","text"),("mark","text"),("clear","text")]) (mV 0)))
def iO:Fn:=mFn 1 lU
def iP:Str->Option Fn:=λ(z:Str)=>if z=("Folding" : Str) then some bL else(λ_=>none) z
def fM:Ms:=
 (aG (aS 2 (aB vAt (mV 1) (mC (.int 2))))
 (aG (bK (aQ (aB iD (aB vAt (mV 2) (mC (.int 0))) (bZ (aA (mC (.str "make")) (aA (mC (.str "move")) (aA (mC (.str "drop")) aC))))))
  (bD (fI "hear_tree" 1 iP (mV 0) (aA (mV 1) aC)))
  cQ)
 (aG (bK (aQ (aB bG (aB vAt (mV 2) (mC (.int 0))) (bZ (aA (mC (.str "back")) (aA (mC (.str "settle")) aC)))))
  (aG (bK (aQ (aB vNe (fI "kind_of" 1 dX (mUn (dW "tree") (mV 0)) (aA (aB vAt (mV 2) (mC (.int 1))) aC)) (aO 1 iO (aA (aB vAt (mV 2) (mC (.int 0))) aC))))
   (bD (mC (.str "idle")))
   cQ)
  (nE (fI "hear" 1 iN (aB vAt (mUn (dW "leaves") (mV 0)) (aB vAt (mV 2) (mC (.int 1)))) (aA (mV 1) aC))))
  cQ)
 (bD (mC (.str "done"))))))
def cJ:Fn:=mFn 3 fM
def dI:Str->Option Fn:=λ(z:Str)=>if z=("Count" : Str) then some dR else(λ(z:Str)=>if z=("Tree" : Str) then some dH else(λ(z:Str)=>if z=("Folding" : Str) then some cJ else(λ(z:Str)=>if z=("Undoing" : Str) then some bO else(λ_=>none) z) z) z) z
def bR:Ms:=
 (aG (lG (mV 4) (gTp 3 (gCn (gN 5) (gCn (gN 6) (gCn (gN 7) gNl)))))
  (aG (aS 8 (fI "hear" 1 dI (mV 1) (aA (mV 4) aC)))
  (bK (aQ (aB vEq (mV 8) (mC (.str "lost"))))
   cI
   (bK (aQ (aB vEq (mV 8) (mC (.str "idle"))))
    (eO (bZ (aA (mC (.str "idle")) aC)) (mV 3) (mV 5))
    (nE (fI "hear" 1 dI (mV 2) (aA (mV 4) aC)))))))
def fN:Ms:=
 cI
def eD:Ms:=
 (aG (aS 1 (iT "Folding" 1 cT (aA (xG qX) aC)))
 (aG (aS 2 (iT "Undoing" 0 cV aC))
 (aG (aS 3 bM)
 (aG (cE (aU (mV 0)) (gN 4) bR)
 (aG (oX true (qN aV fU (mUn (dW "undone") (mV 2))) (cE (sQ true (qN aV fU (mUn (dW "undone") (mV 2)))) (gTp 2 (gCn (gN 5) (gCn (gN 9) gNl))) fN))
 (bD (mV 3)))))))
def eG:Fn:=mFn 10 eD
def qY:Ms:=
 (bD (aB bT (mC (.int 1)) (mCB wR (aA (cF [none] (aU (aB vAt (mV 0) (mC (.int 1)))) (gN 0) lH (aB vAt (mV 0) (mC (.int 1)))) aC))))
def xT:Fn:=mFn 1 qY
def B5:Ms:=
 (aG (lG (aB vAt (mV 0) (mC (.int 0))) (gTp 2 (gCn (gN 1) (gCn (gN 2) gNl))))
 (bD (bZ (aA (aO 1 xT (aA (mV 0) aC)) (aA (mV 1) (aA (mV 2) aC))))))
def B6:Fn:=mFn 3 B5
def iQ:Ms:=
 (eO (mV 2) (mV 1) (aB vAt (mV 2) (mC (.int 0))))
def lV:Ms:=
 (aG (aS 1 bM)
 (aG (cE (aU (mV 0)) (gN 2) iQ)
 (bD (iH B6 false (qN aV vF (mV 1))))))
def cY:Fn:=mFn 3 lV
def pJ:Ms:=
 (bD (aB vAt (mV 0) (mC (.int 0))))
def kF:Fn:=mFn 1 pJ
def iR:Ms:=
 (aG (lG (aB vAt (mV 2) (mC (.int 2))) (gTp 3 (gCn (gN 3) (gCn (gN 4) (gCn (gN 5) gNl)))))
  (bK (aQ (AN vLe vLe (mV 4) (mV 0) (mV 5)))
   (bD (aB vAt (mV 2) (mC (.int 0))))
   cQ))
def lW:Ms:=
 (aG (cE (aU (mV 1)) (gN 2) iR)
 (bD (mC .non)))
def lX:Fn:=mFn 6 lW
def lY:Ms:=
 (aG (lG (aB vAt (mV 3) (mC (.int 0))) (gTp 2 (gCn (gN 4) (gCn (gN 5) gNl))))
  (aG (aS 6 (aB vAt (aB vAt (mV 3) (mC (.int 2))) (mC (.int 0))))
  (aG (bK (aQ (aB vEq (mV 6) (mC (.str "settle"))))
   (aG (eO (nB aC) (mV 2) (mV 4))
   El)
   cQ)
  (aG (aS 7 (aO 2 lX (aA (mV 5) (aA (mMt aV nM (mV 2) (aA (mV 4) (aA (nB aC) aC))) aC))))
  (bK (aQ (aB kZ (mV 7) (mC .non)))
   (eO (mV 7) (mV 1) (aB vAt (mV 3) (mC (.int 0))))
   (bK (aQ (aB vEq (mV 6) (mC (.str "back"))))
    (nE (mMt isL (onL cK) (mMt aV iE (mV 2) (aA (mV 4) (aA (nB aC) aC))) (aA (mV 3) aC)))
    cQ))))))
def sX:Ms:=
 (aG (aS 1 bM)
 (aG (aS 2 bM)
 (aG (cE (aU (iH kF true (mV 0))) (gN 3) lY)
 (bD (mV 1)))))
def jP:Fn:=mFn 8 sX
def lZ:Ms:=
 (aG (aS 1 (aO 1 cY (aA (mV 0) aC)))
 (aG (aS 2 (aO 1 jP (aA (mV 1) aC)))
 (bD (cF [none,some 2] (aU (mV 1)) (gN 0) (aQ (aB bG (aB vAt (mV 0) (mC (.int 0))) (mV 1))) (mV 0)))))
def mB:Fn:=mFn 3 lZ
def mD:Ms:=
 (aG (aS 1 (aO 1 cY (aA (mV 0) aC)))
 (aG (aS 2 (aO 1 jP (aA (mV 1) aC)))
 (bD (cF [none,some 2] (aU (mV 1)) (gN 0) (aQ (aB iD (aB vAt (mV 0) (mC (.int 0))) (mV 1))) (bZ (aA (aB vAt (mV 0) (mC (.int 0))) (aA (aB vAt (mV 1) (aB vAt (mV 0) (mC (.int 0)))) aC)))))))
def mE:Fn:=mFn 3 mD
def pK:Ms:=
 (eO (bZ (aA (mC (.str "back")) (aA (mV 3) aC))) (mV 1) (mV 2))
def xU:Ms:=
 (aG (aS 1 (aO 1 eG (aA (aO 1 mB (aA (mV 0) aC)) aC)))
 (aG (cE (aU (aO 1 mE (aA (mV 0) aC))) (gTp 2 (gCn (gN 2) (gCn (gN 3) gNl))) pK)
 (bD (cF [none,some 1] (aU (aO 1 cY (aA (mV 0) aC))) (gN 0) lH (bZ (aA (aB vAt (mV 0) (mC (.int 0))) (aA (mMt aV nM (mV 1) (aA (aB vAt (mV 0) (mC (.int 0))) (aA (bZ (aA (mC (.str "stands")) aC)) aC))) aC)))))))
def xV:Fn:=mFn 4 xU
def sY:Ms:=
 (bD (bZ (aA (mCB wR (aA (cF [none,none] (aU (aB vAt (mV 0) (mC (.int 1)))) (gTp 2 (gCn (gN 0) (gCn (gN 1) gNl))) lH (mV 1)) aC)) (aA (aB vAt (aB vAt (mV 0) (mC (.int 0))) (mC (.int 0))) (aA (aB vAt (aB vAt (mV 0) (mC (.int 0))) (mC (.int 1))) aC)))))
def cP:Fn:=mFn 1 sY
def qZ:Ms:=
 (aG (aS 4 (qB (aB jH (aO 1 cP (aA (mV 3) aC)) (aO 1 cP (aA (mV 0) aC))) (aB bG (aB vAt (mV 3) (mC (.int 0))) (mV 2))))
   (bK (jF (aQ (aB vEq (aB vAt (mV 3) (mC (.int 0))) (aB vAt (aB vAt (mV 0) (mC (.int 2))) (mC (.int 1))))) (jF (aQ (mV 4)) (aQ (aB vEq (aB vAt (aB vAt (mV 3) (mC (.int 2))) (mC (.int 0))) (mC (.str "make"))))))
    (bD (bZ (aA (mC (.str "stands")) aC)))
    cQ))
def F3:Ms:=
 (aG (bK (aQ (aB iD (aB vAt (mV 0) (mC (.int 0))) (mV 2)))
  (bD (bZ (aA (mC (.str "back")) (aA (aB vAt (mV 2) (aB vAt (mV 0) (mC (.int 0)))) aC))))
  cQ)
 (aG (bK (aQ (aB vEq (aB vAt (aB vAt (mV 0) (mC (.int 2))) (mC (.int 0))) (mC (.str "add"))))
  (aG (cE (aU (mV 1)) (gN 3) qZ)
  (bD (bZ (aA (mC (.str "idle")) aC))))
  cQ)
 (bD (bZ (aA (mC (.str "stands")) aC)))))
def A4:Fn:=mFn 5 F3
def F4:Ms:=
 (aG (aS 1 (aO 1 xM (aA (mV 0) aC)))
 (aG (aS 2 (aO 1 xQ (aA (mV 1) aC)))
 (aG (aS 3 (aB iW (mCB wR (aA (mSl (mV 0) (mP (mUn CQ (mC (.int 1)))) nA) aC)) (aB bT (mCB CU (aA (mV 1) aC)) (mC (.int 1)))))
 (aG (aS 4 (aB bT (aB bT (mSl (mV 1) (mP (mV 3)) nA) (mSl (mV 1) nA (mP (mV 3)))) (mSl (mV 1) (mP (aB CP (mV 3) (mC (.int 2)))) (mP (mV 3)))))
 (aG (aS 5 (mCB nD (aA (mV 4) aC)))
 (aG (aS 6 (aO 1 xV (aA (mV 4) aC)))
 (aG (aS 7 (iH cP false (mV 1)))
 (aG (aS 8 (cF [none,some 7,some 2] (aU (mV 7)) (gN 0) lH (bZ (aA (aB vAt (mV 0) (mC (.int 0))) (aA (aO 3 A4 (aA (mV 0) (aA (mV 1) (aA (mV 2) aC)))) aC)))))
 (bD (qB (mCB uA (aA (mV 6) (aA (mC (.ty "list")) aC))) (qB (aB vEq (mV 6) (mV 8)) (aB vEq (mV 4) (mV 5)))))))))))))
def F5:Fn:=mFn 9 F4
end
end K71
namespace K71
open PySem L2
abbrev Seen:=List (Str×Int)
def look:Seen->Str->Option Int
 |[],_=>none
 |p::r,h=>if p.1=h then some p.2 else look r h
theorem dJ(p:Str×Int)(r:Seen)(h:Str):look (p::r) h=if p.1=h then some p.2 else look r h:=(rfl)
def dput(kvs:Seen)(h:Str)(n:Int):Seen:=if(look kvs h).isSome then kvs.map (λp=>if p.1=h then(p.1,n) else p) else kvs++[(h,n)]
def emb(kvs:Seen):List (Key×PV):=kvs.map λp=>(.inr p.1,.int p.2)
def row(p:Str×Int):List Key:=[.inr p.1,.inl p.2]
def sv(S:Seen):PV:=.tup (S.map λp=>.tup [.str p.1,.int p.2])
theorem sZ(h:Str):∀kvs:Seen,aH (emb kvs) (.inr h)=(look kvs h).map PV.int
 |[]=>rfl
 |p::r=>by
  show aH ((Ru p.1,PV.int p.2)::emb r) (.inr h)=_
  unfold aH look
  by_cases e:p.1=h
  ·rw[if_pos e,if_pos (by rw[e])];rfl
  ·rw[if_neg e,if_neg (by simpa using e)];exact sZ h r
theorem BZ(kvs:Seen)(h:Str)(n:Int):cR (emb kvs) (.inr h) (.int n)=emb (dput kvs h n):=by
 unfold cR dput;rw[sZ];cases look kvs h with
 |none=>simp[emb]
 |some m=>
  simp only[RW,RD,if_true];unfold emb;rw[Qq,Qq];apply QI;intro p _
  by_cases e:p.1=h
  ·simp[e]
  ·simp[e]
variable{S:Seen}
theorem C0{h:Str}{n:Int}:(dput S h n).length<=S.length+1:=by
 unfold dput;split <;> simp
abbrev F6:Str:="abcdefghijklmnopqrstuvwxyz"
theorem F7:F6.cps.toList.length=26:=by decide +kernel
theorem vO:F6.length=26:=by decide +kernel
theorem F8:∀i:Fin 26,F6.cps.toList[i.val]?=some (97+i.val):=by decide +kernel
variable{c:Nat}{x:Str}
theorem tG:(x++(⟨#[c]⟩:Str)).length=x.length+1:=by
 rw[Str.length_append];rfl
variable{i:Int}
theorem Hm(h0:0<=i)(h1:i<26):atI F6.cps.toList i=some (97+i.toNat):=by
 rw[GR h0 (by rw[F7];exact h1)];exact F8 ⟨i.toNat,by omega⟩
theorem app_list(x y:Str):(x++y).cps.toList=x.cps.toList++y.cps.toList:=PySem.W.KT.app_list x y
variable{j:Int}{z:Str}
theorem F9(h0:0<=j)(h1:j<=z.length):(Si z none (some j)).cps.toList=z.cps.toList.take j.toNat:=by
 have ie:j<=z.cps.toList.length:=by simpa[Str.length] using h1
 have e:Si z none (some j)=⟨((z.cps.toList.drop 0).take (j-0).toNat).toArray⟩:=StrLaws.sliceText_to ⟨h0,ie⟩;rw[e];simp
theorem len_list(z:Str):z.cps.toList.length=z.length:=by simp[Str.length]
def pv(p:Str×Int):PV:=.tup [.str p.1,.int p.2]
theorem C1(S:Seen):sv S=.tup (S.map pv):=rfl
variable{h hX:PH}{o:MO}
theorem C2(x:Ext h hX):Ext h (hX.set h.length o):=λn o' e=>by
 have hn:=(Pg.mp e).1;rw[PQ (by omega)];exact x n o' e
inductive Kd where
 |settle
 |back (f l:Int)
 |other
deriving DecidableEq
abbrev HD:=Int×Kd
def reach(b:HD)(n:Int):Bool:=match b.2 with
 |.back f l=>decide (f<=n/\n<=l)
 |_=>false
def hit(n:Int)(B:List HD):Option HD:=B.find? λb=>reach b n
def uD:List HD->List HD->List (HD×HD)
 |[],_=>[]
 |d::L,B=>match d.2,hit d.1 B with
  |.settle,_=>uD L []
  |_,some b=>(d,b)::uD L B
  |.back _ _,none=>uD L (B++[d])
  |.other,none=>uD L B
theorem Dk(d:HD)(L B:List HD):uD (d::L) B=match d.2,hit d.1 B with
  |.settle,_=>uD L []
  |_,some b=>(d,b)::uD L B
  |.back _ _,none=>uD L (B++[d])
  |.other,none=>uD L B:=rfl
abbrev Ke(F:List HD):Prop:=F.Pairwise (λa b=>b.1<a.1)
section
variable{α:Type}[DecidableEq α]
def ofH(h:α)(L:List (α×HD)):List HD:=(L.filter λx=>decide (x.1=h)).map (·.2)
def run:List (α×HD)->(α->List HD)->List (α×HD×HD)
 |[],_=>[]
 |d::L,B=>match d.2.2,hit d.2.1 (B d.1) with
  |.settle,_=>run L λh=>if h=d.1 then[] else B h
  |_,some b=>(d.1,d.2,b)::run L B
  |.back _ _,none=>run L λh=>if h=d.1 then B h++[d.2] else B h
  |.other,none=>run L B
theorem jQ(d:α×HD)(L:List (α×HD))(B:α->List HD):run (d::L) B=match d.2.2,hit d.2.1 (B d.1) with
  |.settle,_=>run L λh=>if h=d.1 then[] else B h
  |_,some b=>(d.1,d.2,b)::run L B
  |.back _ _,none=>run L λh=>if h=d.1 then B h++[d.2] else B h
  |.other,none=>run L B:=rfl
set_option tactic.hygienic true in
theorem gG(h:α):∀(L:List (α×HD))(B:α->List HD),((run L B).filter λx=>decide (x.1=h)).map (·.2)=uD (ofH h L) (B h)
 |[],_=>rfl
 |d::L,B=>by
  unfold ofH
  by_cases e:d.1=h
  ·subst e;rw[Ro,if_pos (decide_eq_true rfl),Pv];rw[jQ,Dk];split
   ·rw[gG d.1 L];simp[ofH]
   ·rename_i b e1 e2;rw[Ro,if_pos (decide_eq_true rfl),Pv,gG d.1 L];rfl
   ·rename_i e1 e2;rw[gG d.1 L];simp[ofH]
   ·rename_i e1 e2;rw[gG d.1 L];simp[ofH]
  ·rw[Ro,if_neg (by simpa using e)]
   have e':h≠d.1:=λz=>e z.symm;rw[jQ];split
   ·rw[gG h L];simp[ofH,e']
   ·rw[Ro,if_neg (by simpa using e),gG h L];rfl
   ·rw[gG h L];simp[ofH,e']
   ·rw[gG h L];rfl
end
structure Dd where
 nm:Str×Int
 seen:Seen
 kd:Kd
 act:List PV
def dP(d:Dd):PV:=.tup [pv d.nm,sv d.seen,.tup d.act]
def word:Kd->Str
 |.settle=>"settle"
 |.back _ _=>"back"
 |.other=>"other"
def WfA:Kd->List PV->Prop
 |.settle,a=>a=[.str "settle"]
 |.back f l,a=>a=[.str "back",.int f,.int l]
 |.other,a=>∃w r,a=.str w::r/\w≠"settle" /\ w≠"back"
structure Wf(d:Dd):Prop where
 len:d.seen.length<=100
 act:WfA d.kd d.act
 pl:d.act.all (PV.pl 37)=true
def hdD(d:Dd):HD:=(d.nm.2,d.kd)
def tri(d:Dd):Str×HD:=(d.nm.1,hdD d)
def tot(S:Seen):Int:=(S.map (·.2)).sum
def kyL(d:Dd):List Key:=[.inl (1+tot d.seen),.inr d.nm.1,.inl d.nm.2]
theorem dP0{d:Dd}:vIx (dP d) (.int 0) h=.ok (pv d.nm) h:=by unfold dP;simp
theorem dP1{d:Dd}:vIx (dP d) (.int 1) h=.ok (sv d.seen) h:=by unfold dP;simp
theorem dP2{d:Dd}:vIx (dP d) (.int 2) h=.ok (.tup d.act) h:=by unfold dP;simp
variable{p:Str×Int}
theorem pv0:vIx (pv p) (.int 0) h=.ok (.str p.1) h:=by unfold pv;simp
theorem pv1:vIx (pv p) (.int 1) h=.ok (.int p.2) h:=by unfold pv;simp
theorem jR{q:Str×Int}(e:pv p=pv q):p=q:=by
 unfold pv at e;have e':=PV.tup.inj e;simp at e';exact Prod.ext e'.1 e'.2
theorem Il:(PV.tup [.str p.1,.int p.2]).ky 6=true:=rfl
theorem Fb(d:Dd)(hS:d.seen.length<=100)(h:PH)(Q:PV->PH->Prop)(k:∀h',Ext h h'->Q (.int (1+tot d.seen)) h'):(xT [dP d] h).W Q:=by
 refine cA ?_;have hc:=vD (js:=[none]) (tg:=gN 0) (tst:=lH) (elt:=aB vAt (mV 0) (mC (.int 1))) (m:=aB vAt (mV 0) (mC (.int 1))) (δ:=[some (dP d)]) (h:=h) (h1:=h) (ys:=d.seen) (emb:=pv)
  (λq=>some (.int q.2)) (by simp[dP1,C1]) (by omega) (λq hq=>⟨_,rfl,λh3 _=>⟨rfl,by simp[fP,pv1]⟩⟩)
 have es:d.seen.filterMap (λq=>some (PV.int q.2))=(d.seen.map (·.2)).map PV.int:=by rw[filterMap_some,Qq];rfl
 rw[es]at hc;have gs:(h++[MO.lst ((d.seen.map (·.2)).map PV.int)])[h.length]?=some (.lst ((d.seen.map (·.2)).map PV.int)):=aF;change (qY [some (dP d)] h).W _;unfold qY;rw[M6,GO,M8,Rs.bind_ok,JQ,sG,hc];simp only[Rs.bind_ok,BB,nJ gs,D2,oP];exact k _ (Ext.app _ _)
theorem Hn(d:Dd)(hS:d.seen.length<=100)(h:PH)(Q:PV->PH->Prop)(k:∀h',Ext h h'->Q (tP (kyL d)) h'):(B6 [dP d] h).W Q:=by
 refine cA ?_;unfold B5;rw[aD];simp[dP0];refine⟨[some (dP d),some (.str d.nm.1),some (.int d.nm.2)],by simp[pv],?_⟩;refine now ?_;simp;refine Fb d hS _ _ λh' hx=>?_
 try simp
 exact k h' hx
def ent(d:Dd):PV×PV:=(pv d.nm,dP d)
theorem A5(p:Str×Int):∀es:List Dd,(aH (es.map ent) (pv p)).isSome=true↔p∈es.map (·.nm)
 |[]=>by simp[aH]
 |d::es=>by
  rw[Pv,Pv,PC]
  show(aH ((pv d.nm,dP d)::es.map ent) (pv p)).isSome=true↔_
  unfold aH
  by_cases e:d.nm=p
  ·rw[if_pos (by rw[e])];simp[e]
  ·rw[if_neg (λz=>e (jR z)),A5 p es];constructor
   ·exact .inr
   ·rintro(z|z)
    ·exact(e z.symm).elim
    ·exact z
variable{es:List Dd}
theorem Ho{d:Dd}(hu:∀x∈es,x.nm=d.nm->x=d):cR (es.map ent) (pv d.nm) (dP d)=(if d.nm∈es.map (·.nm) then es else es++[d]).map ent:=by
 unfold cR;have hl:=A5 d.nm es
 by_cases e:d.nm∈es.map (·.nm)
 ·rw[if_pos e,if_pos (hl.mpr e),Qq];apply QI;intro x hx
  show(if(ent x).1=pv d.nm then((ent x).1,dP d) else ent x)=ent x
  by_cases z:(ent x).1=pv d.nm
  ·rw[if_pos z];have:=hu x hx (jR z);subst this;rfl
  ·rw[if_neg z]
 ·rw[if_neg e,if_neg (λz=>e (hl.mp z)),PZ];rfl
theorem Hq(xs:List Dd):qO (xs.map kyL)=true:=by
 cases xs with
 |nil=>rfl
 |cons a r=>
  rw[Pv];unfold qO;rw[PF];refine⟨rfl,P3.mpr λz hz=>?_⟩;obtain⟨q,_,rfl⟩:=Pw.mp hz;rfl
theorem tH{β:Type}(f:Dd->β)(hf:∀a b,f a=f b->a.nm=b.nm):∀{xs:List Dd},(xs.map (·.nm)).Nodup->(xs.map f).Nodup:=λ{xs} h=>by
 unfold List.Nodup at*;rw[Q1] at*;exact h.imp λow e=>ow (hf _ _ e)
theorem B7(a b:Dd)(e:kyL a=kyL b):a.nm=b.nm:=by
 unfold kyL at e;simp at e;exact Prod.ext e.2.1 e.2.2
variable{n:Nat}
theorem fO(x:Ext h hX)(hn:h.length<=n):Ext h (hX.set n o):=λm o' e=>by
 have:=(Pg.mp e).1;rw[PQ (by omega)];exact x m o' e
abbrev gH(os:List Dd):Prop:=os.Pairwise (λa b=>aN (kyL b) (kyL a)=false)
set_option tactic.hygienic true in
theorem xW(U ds:List Dd)(hU:∀d∈ds,d∈U)(hlU:U.length<=63)(hw:∀d∈ds,Wf d)(hl:ds.length<=1000)(hu:∀d∈ds,∀e∈ds,d.nm=e.nm->d=e)(n:Nat)(h:PH)(g:h[n]?=some (.lst (ds.map dP)))(Q:PV->PH->Prop)
  (k:∀os l h',Ext h h'->h.length<=l->h'[l]?=some (.lst (os.map dP))->(os.map (·.nm)).Nodup->(∀d,d∈os↔d∈ds)->gH os->Q (.ref l) h'):(cY [.ref n] h).W Q:=by
 refine cA ?_;unfold lV;rw[aD];simp;have x0:Ext h (h++[MO.dK []]):=Ext.app _ _;have g0:aT (h++[MO.dK []]) h.length=some (([]:List Dd).map ent):=qW aF;generalize h++[MO.dK []]=hA at x0 g0;refine now ?_;rw[aD];refine fF (n:=n) (xs:=ds.map dP) (h1:=hA) (λq δ h'=>∃es:List Dd,Ext h h'/\aT h' h.length=some (es.map ent)/\(es.map (·.nm)).Nodup/\(∀d,d∈es↔d∈ds.take q)/\es.length<=q/\∃x2,δ=[some (.ref n),some (.ref h.length),x2]) (by simp) (x0 _ _ g) ⟨[],x0,g0,by simp,by simp,by simp,_,rfl⟩ ?_ ?_ ?_
 ·rintro q δ h' hq ⟨es,x,_⟩;exact x _ _ g
 ·rintro q y δ h' hy ⟨es,x,t,nd,mem,le,x2,rfl⟩;rw[Pu]at hy;obtain⟨d,hd,rfl⟩:=PB.mp hy;have iq:q<ds.length:=(Pg.mp hd).1;have htk:ds.take (q+1)=ds.take q++[d]:=by rw[Qh,hd];rfl
  have cv:d∈ds:=PD hd;have dz:∀e∈es,e∈ds:=λe he=>RN ((mem e).mp he);refine⟨_,rfl,?_⟩;have hp:oR (.ref h.length) (pv d.nm) (dP d) h'=some (h'.set h.length (.dD (cR (es.map ent) (pv d.nm) (dP d)))):=AY t Il (by rw[Pl];omega);rw[Ho λe he z=>hu e (dz e he) d cv z]at hp;have hh:∃o,h'[h.length]?=some o:=let ⟨o,g,_⟩:=bI t;⟨o,g⟩;obtain⟨o,ho⟩:=hh;unfold iQ;simp[dP0];refine⟨_,hp,C2 x,_,nN (bB ho),?_,?_,?_⟩
  ·split
   ·exact nd
   ·rename_i z;rw[PZ,Qx];refine⟨nd,by simp,λa ha b hb e=>?_⟩;rw[List.map_singleton,Pz]at hb;subst hb e;exact z (by simpa using ha)
  ·intro e;rw[htk];split
   ·rename_i z;rw[mem e,PK,Pz];constructor
    ·exact .inl
    ·rintro(z'|rfl)
     ·exact z'
     ·obtain⟨e',gp,en⟩:=Pw.mp (show e.nm∈es.map (·.nm) by simpa using z)
      have:=hu e' (dz e' gp) e cv en;subst this;exact(mem e').mp gp
   ·rw[PK,PK,mem e]
  ·split
   ·omega
   ·simp;omega
 ·rintro δ h' ⟨es,x,t,nd,mem,le,x2,rfl⟩;have hle:es.length<=63:=by
   have h1:(es.map (·.nm)).length<=(U.map (·.nm)).length:=QP nd λp hp=>by
    obtain⟨d,hd,rfl⟩:=Pw.mp hp;exact Pw.mpr ⟨d,hU d (RN ((mem d).mp hd)),rfl⟩
   simp at h1;omega
  obtain⟨o,ho,ub,_⟩:=bI t;refine now ?_;simp[ub,GZ t];have x1:Ext h' (h'++[MO.vw 1 h.length]):=Ext.app _ _;have ei:iG (.ref h'.length) (h'++[MO.vw 1 h.length])=some (es.map dP):=by
   rw[zV aF (eM x1 t),Qq];rfl
  generalize h'++[MO.vw 1 h.length]=h2 at x1 ei;have nj:∀d,d∈es↔d∈ds:=λd=>by rw[mem d,Pl,QK]
  refine xB (key:=kyL) (emb:=dP) (S:=shape [.inl 0,.inr "",.inl 0]) ei (by omega) (Hq es) (λ_ _=>rfl) (tH kyL B7 nd) (λd hd h Q kk=>Hn d (hw d ((nj d).mp hd)).len h Q kk) λos h3 x3 hp ho=>?_;refine k os h3.length _ ((x.trans x1).trans (x3.trans (Ext.app _ _))) (P6 x.len (P6 x1.len x3.len)) aF ((hp.map _).nodup_iff.mpr nd) (λd=>(hp.mem_iff).trans (nj d)) ho
theorem jS(ds:List Dd)(hw:∀d∈ds,Wf d)(hl:ds.length<=63)(hu:∀d∈ds,∀e∈ds,d.nm=e.nm->d=e)(n:Nat)(h:PH)(g:h[n]?=some (.lst (ds.map dP)))(Q:PV->PH->Prop)
  (k:∀os l h',Ext h h'->h'[l]?=some (.lst (os.map dP))->(os.map (·.nm)).Nodup->(∀d,d∈os↔d∈ds)->gH os->Q (.ref l) h'):(cY [.ref n] h).W Q:=by
 exact xW ds ds (λ_ h=>h) hl hw (by omega) hu n h g Q λos l h' a _ b c d e=>k os l h' a b c d e
def lk{β:Type}:List (Str×β)->Str->Option β
 |[],_=>none
 |p::r,w=>if p.1=w then some p.2 else lk r w
def dpt{β:Type}(R:List (Str×β))(w:Str)(m:β):List (Str×β):=if(lk R w).isSome then R.map (λp=>if p.1=w then(p.1,m) else p) else R++[(w,m)]
def em{β:Type}(f:β->PV)(R:List (Str×β)):List (Key×PV):=R.map λp=>(.inr p.1,f p.2)
theorem C3{β:Type}(f:β->PV)(w:Str):∀R:List (Str×β),aH (em f R) (.inr w)=(lk R w).map f
 |[]=>rfl
 |p::r=>by
  show aH ((Ru p.1,f p.2)::em f r) (.inr w)=_
  unfold aH lk
  by_cases e:p.1=w
  ·rw[if_pos e,if_pos (by rw[e])];rfl
  ·rw[if_neg e,if_neg (by simpa using e)];exact C3 f w r
theorem Im{β:Type}(f:β->PV)(R:List (Str×β))(w:Str)(m:β):cR (em f R) (.inr w) (f m)=em f (dpt R w m):=by
 unfold cR dpt;rw[C3];cases lk R w with
 |none=>simp[em]
 |some z=>
  simp only[RW,RD,if_true];unfold em;rw[Qq,Qq];apply QI;intro p _
  by_cases e:p.1=w
  ·simp[e]
  ·simp[e]
theorem Fc{β:Type}(w:Str)(m:β)(x:Str):∀R:List (Str×β),lk (R.map λp=>if p.1=w then(p.1,m) else p) x=if x=w then(lk R x).map (λ_=>m) else lk R x
 |[]=>by simp[lk]
 |p::r=>by
  rw[Pv];have ih:=Fc w m x r
  by_cases e:p.1=w
  ·rw[if_pos e];unfold lk;dsimp only
   by_cases z:p.1=x
   ·rw[if_pos z,if_pos z,if_pos (z.symm.trans e)];rfl
   ·rw[if_neg z,if_neg z,ih]
  ·rw[if_neg e];unfold lk
   by_cases z:p.1=x
   ·rw[if_pos z,if_pos z,if_neg (λq=>e (z.trans q))]
   ·rw[if_neg z,if_neg z,ih]
theorem Fd{β:Type}(w:Str)(m:β)(x:Str):∀R:List (Str×β),lk (R++[(w,m)]) x=match lk R x with|some y=>some y|none=>if x=w then some m else none
 |[]=>by
  show(if w=x then some m else none)=if x=w then some m else none
  by_cases e:w=x
  ·rw[if_pos e,if_pos e.symm]
  ·rw[if_neg e,if_neg λz=>e z.symm]
 |p::r=>by
  rw[SF];unfold lk
  by_cases z:p.1=x
  ·rw[if_pos z,if_pos z]
  ·rw[if_neg z,if_neg z,Fd w m x r]
theorem B8{β:Type}(R:List (Str×β))(w:Str)(m:β)(x:Str):lk (dpt R w m) x=if x=w then some m else lk R x:=by
 unfold dpt;cases e:lk R w with
 |none=>
  rw[if_neg (by simp),Fd]
  by_cases z:x=w
  ·subst z;rw[e,if_pos rfl]
  ·rw[if_neg z];cases lk R x <;> simp[z]
 |some y=>
  rw[if_pos (by simp),Fc]
  by_cases z:x=w
  ·subst z;rw[if_pos rfl,if_pos rfl,e];rfl
  ·rw[if_neg z,if_neg z]
variable{w:Str}
theorem Hr{β:Type}{R:List (Str×β)}{m:β}:(dpt R w m).length<=R.length+1:=by
 unfold dpt;split <;> simp
def nmL(d:Dd):List Key:=[.inr d.nm.1,.inl d.nm.2]
theorem Hs(xs:List Dd):qO (xs.map nmL)=true:=by
 cases xs with
 |nil=>rfl
 |cons a r=>
  rw[Pv];unfold qO;rw[PF];refine⟨rfl,P3.mpr λz hz=>?_⟩;obtain⟨q,_,rfl⟩:=Pw.mp hz;rfl
theorem Kf(a b:Dd)(e:nmL a=nmL b):a.nm=b.nm:=by
 unfold nmL at e;simp at e;exact Prod.ext e.1 e.2
theorem Ht(d:Dd)(h:PH)(Q:PV->PH->Prop)(k:Q (pv d.nm) h):(kF [dP d] h).W Q:=by
 refine cA ?_;simp[pJ,dP0];exact k
abbrev B9(n:Int)(bs:List Dd):Option Dd:=bs.find? λb=>reach (hdD b) n
set_option tactic.hygienic true in
theorem Fe(n:Int)(bs:List Dd)(hb:∀b∈bs,Wf b/\∃f l,b.kd=.back f l)(hz:bs.length<=100)(m:Nat)(h:PH)(g:h[m]?=some (.lst (bs.map dP)))(Q:PV->PH->Prop)(k:Q (match B9 n bs with|some b=>pv b.nm|none=>.non) h):(lX [.int n,.ref m] h).W Q:=by
 refine cA ?_;unfold lW;rw[aD];refine fF (n:=m) (xs:=bs.map dP) (h1:=h) (λq δ h'=>h'=h/\(∀b∈bs.take q,reach (hdD b) n=false)/\∃x2 x3 x4 x5,δ=[some (.int n),some (.ref m),x2,x3,x4,x5]) (by simp) g ⟨rfl,by simp,_,_,_,_,rfl⟩ ?_ ?_ ?_
 ·rintro q δ h' hq ⟨rfl,_⟩;exact g
 ·rintro q y δ h' hy ⟨rfl,nr,x2,x3,x4,x5,rfl⟩;rw[Pu]at hy;obtain⟨d,hd,rfl⟩:=PB.mp hy;have iq:q<bs.length:=(Pg.mp hd).1;obtain⟨wf,f,l,ek⟩:=hb d (PD hd);have ea:d.act=[.str "back",.int f,.int l]:=by
   have:=wf.act;rw[ek]at this;exact this
  have er:reach (hdD d) n=decide (f<=n/\n<=l):=by
   unfold reach
   show(match d.kd with|.back f l=>decide (f<=n/\n<=l)|_=>false)=_
   rw[ek]
  have split1:bs=bs.take q++d::bs.drop (q+1):=by
   have e1:bs.drop q=d::bs.drop (q+1):=drop_cons hd;rw[<-e1,Q2]
  refine⟨_,rfl,?_⟩;unfold iR;rw[aD];simp[dP2,ea];refine now ?_;simp[dP0];have fin:f<=n->n<=l->Q (pv d.nm) h':=λh1 h2=>by
   have:B9 n bs=some d:=by
    unfold B9;rw[split1,List.find?_append,List.find?_eq_none.mpr (λb hb=>by rw[nr b hb];decide),List.find?_cons_of_pos (by rw[show reach (hdD d) n=decide (f<=n/\n<=l) from er];exact decide_eq_true ⟨h1,h2⟩)]
    rfl
   rw[this]at k;exact k
  have pf:¬ (f<=n/\n<=l)->∀b∈bs.take (q+1),reach (hdD b) n=false:=λz b hb=>by
   rw[Qh,hd,PK]at hb;rcases hb with hb|hb
   ·exact nr b hb
   ·rw[show(some d).toList=[d] from rfl,Pz]at hb
    subst hb;rw[er];exact decide_eq_false z
  split
  ·rename_i z1;split
   ·rename_i z2;exact fin z1 z2
   ·rename_i z2;exact pf λz=>z2 z.2
  ·rename_i z1;exact pf λz=>z1 z.1
 ·rintro δ h' ⟨rfl,nr,x2,x3,x4,x5,rfl⟩;rw[Pl,QK]at nr;have:B9 n bs=none:=List.find?_eq_none.mpr λb hb=>by rw[nr b hb];decide
  rw[this]at k;refine now ?_;simp;exact k
def tk(x:Str×HD×HD):PV×PV:=(pv (x.1,x.2.1.1),pv (x.1,x.2.2.1))
theorem C4(p:Str×Int):∀T:List (Str×HD×HD),(aH (T.map tk) (pv p)).isSome=true ↔ ∃x∈T,x.1=p.1/\x.2.1.1=p.2
 |[]=>by simp[aH]
 |y::T=>by
  rw[Pv]
  show(aH ((pv (y.1,y.2.1.1),pv (y.1,y.2.2.1))::T.map tk) (pv p)).isSome=true↔_
  unfold aH
  by_cases e:(y.1,y.2.1.1)=p
  ·rw[if_pos (by rw[e])];constructor
   ·intro _;exact⟨y,Pm,by rw[<-e],by rw[<-e]⟩
   ·intro _;rfl
  ·rw[if_neg (λz=>e (jR z)),C4 p T];constructor
   ·rintro⟨x,hx,q⟩;exact⟨x,Pj _ hx,q⟩
   ·rintro⟨x,hx,q1,q2⟩;rcases PC.mp hx with rfl|hx
    ·exact(e (Prod.ext q1 q2)).elim
    ·exact⟨x,hx,q1,q2⟩
theorem Hu(n:Int)(bs:List Dd):hit n (bs.map hdD)=(B9 n bs).map hdD:=by
 unfold hit B9;rw[List.find?_map];rfl
theorem xX{d:Dd}(w:Wf d):∃x r,d.act=.str x::r/\(x="settle" ↔ d.kd=.settle)/\(x="back" ↔ ∃f l,d.kd=.back f l):=by
 have h:=w.act;cases e:d.kd with
 |settle=>rw[e]at h;exact⟨"settle",[],h,by simp,by simp;decide⟩
 |back f l=>rw[e]at h;exact⟨"back",_,h,by simp;decide,by simp⟩
 |other=>
  rw[e]at h;obtain⟨x,r,e1,n1,n2⟩:=h;exact⟨x,r,e1,by simp[n1],by simp[n2]⟩
abbrev Ff(L:List Dd):Prop:=L.Pairwise (λa b=>aN (nmL a) (nmL b)=false)
structure BOk(sl lb:Nat)(q:Nat)(h':PH)(R:List (Str×Nat))(Bd:Str->List Dd):Prop where
 at':∀w m,lk R w=some m->h'[m]?=some (.lst ((Bd w).map dP))/\lb<m/\m≠sl
 no:∀w,lk R w=none->Bd w=[]
 inj:∀w w' m,lk R w=some m->lk R w'=some m->w=w'
 back:∀w,∀b∈Bd w,b.nm.1=w/\Wf b/\∃f l,b.kd=.back f l
 len:∀w,(Bd w).length<=q
 lenR:R.length<=q
variable{R:List (Str×Nat)}{h':PH}{lb sl:Nat}
theorem BOk.get{q:Nat}{h2:PH}{Bd:Str->List Dd}(b:BOk sl lb q h' R Bd)(e:Ext h' h2):BOk sl lb q h2 R Bd:=
 ⟨λw m z=>let ⟨a,c,d⟩:=b.at' w m z;⟨e _ _ a,c,d⟩,b.no,b.inj,b.back,b.len,b.lenR⟩
theorem BOk.up{q:Nat}{Bd:Str->List Dd}(b:BOk sl lb q h' R Bd):BOk sl lb (q+1) h' R Bd:=
 ⟨b.at',b.no,b.inj,b.back,λw=>Ss (b.len w),Ss b.lenR⟩
theorem BOk.aside{q:Nat}{Bd:Str->List Dd}(b:BOk sl lb q h' R Bd)(hn:n<=lb):BOk sl lb q (h'.set n o) R Bd:=
 ⟨λw m z=>let ⟨a,c,d⟩:=b.at' w m z;⟨by rw[PQ (by omega)];exact a,c,d⟩,b.no,b.inj,b.back,b.len,b.lenR⟩
theorem BOk.skip{q:Nat}{Bd:Str->List Dd}(b:BOk sl lb q h' R Bd)(hn:∀x,lk R x≠some n):BOk sl lb q (h'.set n o) R Bd:=
 ⟨λw m z=>let ⟨a,c,d⟩:=b.at' w m z;⟨by rw[PQ (λe:n=m=>hn w (e▸z))];exact a,c,d⟩,b.no,b.inj,b.back,b.len,b.lenR⟩
variable{m:Nat}
theorem BOk.put{q:Nat}{Bd:Str->List Dd}{bs:List Dd}(b:BOk sl lb q h' R Bd)(hm:h'[m]?=some (.lst (bs.map dP)))(h1:lb<m)(h2:m≠sl)(hf:∀x,lk R x≠some m)(hb:∀b∈bs,b.nm.1=w/\Wf b/\∃f l,b.kd=.back f l)(hl:bs.length<=q+1):BOk sl lb (q+1) h' (dpt R w m) (λx=>if x=w then bs else Bd x) where
 at':=λx m' z=>by
  rw[B8]at z
  by_cases e:x=w
  ·rw[if_pos e]at z⊢;cases z
   exact⟨hm,h1,h2⟩
  ·rw[if_neg e]at z⊢;exact b.at' x m' z
 no:=λx z=>by
  rw[B8]at z
  by_cases e:x=w
  ·rw[if_pos e]at z;cases z
  ·rw[if_neg e]at z⊢;exact b.no x z
 inj:=λx y m' z1 z2=>by
  rw[B8]at z1 z2
  by_cases e1:x=w <;> by_cases e2:y=w
  ·rw[e1,e2]
  ·rw[if_pos e1]at z1;rw[if_neg e2]at z2;cases z1;exact(hf y z2).elim
  ·rw[if_neg e1]at z1;rw[if_pos e2]at z2;cases z2;exact(hf x z1).elim
  ·rw[if_neg e1]at z1;rw[if_neg e2]at z2;exact b.inj x y m' z1 z2
 back:=λx y hy=>by
  by_cases e:x=w
  ·simp only[if_pos e]at hy;rw[e];exact hb y hy
  ·simp only[if_neg e]at hy;exact b.back x y hy
 len:=λx=>by
  by_cases e:x=w
  ·simp only[if_pos e];exact hl
  ·simp only[if_neg e];exact Ss (b.len x)
 lenR:=P6 Hr (Nat.succ_le_succ b.lenR)
theorem BOk.grow{q:Nat}{Bd:Str->List Dd}{d:Dd}(b:BOk sl lb q h' R Bd)(hm:lk R d.nm.1=some m)(hw:Wf d)(hk:∃f l,d.kd=.back f l):
  BOk sl lb (q+1) (h'.set m (.lst ((Bd d.nm.1++[d]).map dP))) R (λx=>if x=d.nm.1 then Bd d.nm.1++[d] else Bd x) where
 at':=λx m' z=>by
  obtain⟨a,c,e⟩:=b.at' x m' z
  by_cases ew:x=d.nm.1
  ·subst ew;rw[hm]at z;cases z;rw[if_pos rfl];exact⟨bB a,c,e⟩
  ·rw[if_neg ew,PQ (λzz:m=m'=>ew (b.inj _ _ m' z (zz▸hm)))];exact⟨a,c,e⟩
 no:=λx z=>by
  by_cases e:x=d.nm.1
  ·rw[e,hm]at z;cases z
  ·rw[if_neg e];exact b.no x z
 inj:=b.inj
 back:=λx y hy=>by
  by_cases e:x=d.nm.1
  ·simp only[if_pos e]at hy;rcases PK.mp hy with hy|hy
   ·rw[e];exact b.back _ y hy
   ·rw[Pz.mp hy];exact⟨e.symm,hw,hk⟩
  ·simp only[if_neg e]at hy;exact b.back x y hy
 len:=λx=>by
  by_cases e:x=d.nm.1
  ·simp only[if_pos e];rw[QB];exact Nat.succ_le_succ (b.len _)
  ·simp only[if_neg e];exact Ss (b.len x)
 lenR:=Ss b.lenR
def TI(h:PH)(n sl:Nat)(L:List Dd)(q:Nat)(δ:Ev)(h':PH):Prop:=∃T R Bd,Ext h h'/\h'[sl]?=some (.lst (L.map dP))/\aT h' h.length=some (T.map tk)/\h'[h.length+1]?=some (.dK (em PV.ref R))/\BOk sl (h.length+1) q h' R Bd/\T.length<=q/\(∀x∈T,(x.1,x.2.1.1)∈(L.take q).map (·.nm))/\
   run (L.map tri) (λ_=>[])=T++run ((L.drop q).map tri) (λw=>(Bd w).map hdD)/\∃x3 x4 x5 x6 x7,δ=[some (.ref n),some (.ref h.length),some (.ref (h.length+1)),x3,x4,x5,x6,x7]
theorem Dl(os:List Dd)(hw:∀d∈os,Wf d)(hl:os.length<=63)(nd:(os.map (·.nm)).Nodup)(n:Nat)(h:PH)(g:h[n]?=some (.lst (os.map dP)))(Q:PV->PH->Prop)
  (k:∀L l h',Ext h h'->L.Perm os->Ff L->aT h' l=some ((run (L.map tri) λ_=>[]).map tk)->Q (.ref l) h'):(jP [.ref n] h).W Q:=by
 refine cA ?_;unfold sX;rw[aD];simp;refine now ?_;rw[aD];simp;have x0:Ext h (h++[MO.dK [],MO.dK []]):=Ext.app _ _;have gt:aT (h++[MO.dK [],MO.dK []]) h.length=some (([]:List (Str×HD×HD)).map tk):=qW (by simp);have gb:(h++[MO.dK [],MO.dK []])[h.length+1]?=some (.dK (em PV.ref [])):=by simp[em]
 generalize h++[MO.dK [],MO.dK []]=hA at x0 gt gb;refine now ?_;rw[aD];have gA:=x0 _ _ g
 -- the sort comes first
 have yn:(jI kF true (.ref n) hA).W λp h2=>∃L h3,p=.ref h3.length/\h2=h3++[.lst (L.map dP)]/\Ext hA h3/\L.Perm os/\Ff L:=
  xB (key:=nmL) (emb:=dP) (S:=shape [.inr "",.inl 0]) (sP gA) (by omega) (Hs os) (λ_ _=>rfl) (tH nmL Kf nd) (λd hd h Q kk=>Ht d h Q (kk h (Ext.refl h))) λL h3 x3 hp ho=>⟨L,h3,rfl,rfl,x3,hp,ho⟩
 obtain⟨p,h2,e2,L,h3,rfl,rfl,x3,hp,hf⟩:=lI yn;have hlA:h.length+1<hA.length:=(Pg.mp gb).1;have hl3:hA.length<=h3.length:=x3.len;have x1:Ext h (h3++[.lst (L.map dP)]):=x0.trans (x3.trans (Ext.app _ _));have u6:=eM (x3.trans (Ext.app h3 [.lst (L.map dP)])) gt;have w9:=(x3.trans (Ext.app h3 [.lst (L.map dP)])) _ _ gb;have gs:(h3++[.lst (L.map dP)])[h3.length]?=some (.lst (L.map dP)):=aF;have yq:h.length+1<h3.length:=by omega
 generalize h3.length=sl at e2 gs yq;generalize h3++[.lst (L.map dP)]=hB at e2 x1 u6 w9 gs;have yf:∀d∈L,Wf d:=λd hd=>hw d (hp.mem_iff.mp hd);have ph:(L.map (·.nm)).Nodup:=(hp.map _).nodup_iff.mpr nd;have hlL:L.length<=63:=by rw[hp.length_eq];exact hl
 refine fF (n:=sl) (xs:=L.map dP) (h1:=hB) (TI h n sl L) ?_ gs ?_ ?_ ?_ ?_
 ·simp[e2]
 ·exact⟨[],[],λ_=>[],x1,gs,u6,w9,⟨λw m z=>(by cases z),λ_ _=>rfl,λw w' m z=>(by cases z),λw b hb=>(by cases hb),λ_=>P8 _,P8 _⟩,P8 _,λx hx=>(by cases hx),by simp,_,_,_,_,_,rfl⟩
 ·rintro q δ h' hq ⟨T,R,Bd,x,g1,_⟩;exact g1
 ·rintro q y δ h' hy ⟨T,R,Bd,x,g1,g2,g3,b,lT,nT,hr,x3,x4,x5,x6,x7,rfl⟩;rw[Pu]at hy;obtain⟨d,ik,rfl⟩:=PB.mp hy;have iq:q<L.length:=(Pg.mp ik).1;have oz:L.drop q=d::L.drop (q+1):=drop_cons ik;have htk:L.take (q+1)=L.take q++[d]:=by rw[Qh,ik];rfl
  have wf:=yf d (PD ik);obtain⟨wd,r,ea,es,eb⟩:=xX wf;rw[oz,Pv,jQ]at hr;have bf:d.nm∉(L.take q).map (·.nm):=λz=>by
   have e1:L.map (·.nm)=(L.take q).map (·.nm)++(d::L.drop (q+1)).map (·.nm):=by rw[<-PZ,<-oz,Q2]
   rw[e1,Qx]at ph;exact ph.2.2 _ z _ (by simp) rfl
  have m5:∀x∈T,(x.1,x.2.1.1)∈(L.take (q+1)).map (·.nm):=λx hx=>by
   rw[htk,PZ];exact Qe _ (nT x hx)
  refine⟨_,rfl,?_⟩;unfold lY;rw[aD];simp[dP0];refine⟨[some (.ref n),some (.ref h.length),some (.ref (h.length+1)),some (dP d),some (.str d.nm.1),some (.int d.nm.2),x6,x7],by simp[pv],?_⟩;refine now ?_;rw[aD];simp[dP2,ea];refine now ?_;rw[aD];have mw:h.length+1<h'.length:=(Pg.mp g3).1;have OX:sl<h'.length:=(Pg.mp g1).1
  by_cases c1:wd="settle"
  ·have ek:=es.mp c1;simp[c1,aD];have y1:Ext h' (h'++[MO.lst []]):=Ext.app _ _;have y2:(h'++[MO.lst []])[h'.length]?=some (.lst (([]:List Dd).map dP)):=aF;generalize h'++[MO.lst []]=h2 at y1 y2;have u0:=y1 _ _ g3;have cy:oR (.ref (h.length+1)) (.str d.nm.1) (.ref h'.length) h2=some (h2.set (h.length+1) (.dK (em PV.ref (dpt R d.nm.1 h'.length)))):=by
    rw[BP u0 (by unfold em;rw[Pl];have:=b.lenR;omega),Im]
   have b1:=((b.get y1).put (w:=d.nm.1) (bs:=[]) y2 mw (by omega) (λx z=>by
    have:=(Pg.mp (b.at' x _ z).1).1;omega) (λb hb=>by cases hb) (P8 _)).aside (n:=h.length+1) (o:=.dK (em PV.ref (dpt R d.nm.1 h'.length))) (Pk _)
   have x2:Ext h (h2.set (h.length+1) (.dK (em PV.ref (dpt R d.nm.1 h'.length)))):=fO (x.trans y1) (by omega);have zt:(h2.set (h.length+1) (.dK (em PV.ref (dpt R d.nm.1 h'.length))))[sl]?=some (.lst (L.map dP)):=aK (y1 _ _ g1) (by omega);obtain⟨o,ho,_,hh⟩:=bI (eM y1 g2);have zw:=hh _ (aK (n:=h.length+1) (m:=h.length) (o':=.dK (em PV.ref (dpt R d.nm.1 h'.length))) ho (by omega));refine⟨_,cy,now ?_⟩;simp;refine⟨T,_,_,x2,zt,zw,bB u0,b1,by omega,m5,?_,_,_,_,_,_,rfl⟩;rw[hr,show(tri d).2.2=.settle from ek]
   simp only
   congr 2
   funext w
   show(if w=d.nm.1 then[] else(Bd w).map hdD)=_
   by_cases e:w=d.nm.1
   ·rw[if_pos e,if_pos e];rfl
   ·rw[if_neg e,if_neg e]
  ·have ek:d.kd≠.settle:=λz=>c1 (es.mpr z);simp[c1];refine now ?_;rw[aD]
   -- what the hand has so far
   have y1:Ext h' (h'++[MO.lst []]):=Ext.app _ _;have y2:(h'++[MO.lst []])[h'.length]?=some (.lst (([]:List Dd).map dP)):=aF;have ub:aV (.ref (h.length+1)) h'=true:=zL g3;have c9:=GW (x:=d.nm.1) (z:=.ref h'.length) (y1 _ _ g3);simp[ub];generalize h'++[MO.lst []]=h2 at y1 y2 c9;rw[C3]at c9;have b1:=b.get y1;have OV:∃m,(((lk R d.nm.1).map PV.ref).getD (.ref h'.length))=.ref m/\h2[m]?=some (.lst ((Bd d.nm.1).map dP)):=by
    cases e:lk R d.nm.1 with
    |some m=>exact⟨m,rfl,(b1.at' _ _ e).1⟩
    |none=>exact⟨h'.length,rfl,by rw[b.no _ e];exact y2⟩
   obtain⟨m,OK,OC⟩:=OV;rw[OK]at c9;simp[c9];refine Fe d.nm.2 (Bd d.nm.1) (λz hz=>(b.back _ z hz).2) (by have:=b.len d.nm.1;omega) m h2 OC _ ?_;have hh:=Hu d.nm.2 (Bd d.nm.1);have i5:=y1 _ _ g1;have oq:=eM y1 g2;have qe:=y1 _ _ g3;have sk:=x.trans y1;cases eh:B9 d.nm.2 (Bd d.nm.1) with
   |some z=>
    rw[eh]at hh;simp only[eh];refine now ?_;have Oy:z.nm.1=d.nm.1:=(b.back _ z (List.mem_of_find?_eq_some eh)).1;have cy:oR (.ref h.length) (pv d.nm) (pv z.nm) h2=some (h2.set h.length (.dD (cR (T.map tk) (pv d.nm) (pv z.nm)))):=AY oq Il (by rw[Pl];omega);have ug:cR (T.map tk) (pv d.nm) (pv z.nm)=(T++[(d.nm.1,hdD d,hdD z)]).map tk:=by
     unfold cR;rw[if_neg (λzz=>by
      obtain⟨x,hx,e1,e2⟩:=(C4 d.nm T).mp zz;exact bf (by have:=nT x hx;rw[e1,e2]at this;exact this)),PZ]
     congr 1
     have e3:pv z.nm=pv (d.nm.1,z.nm.2):=by rw[<-Oy]
     show[(pv d.nm,pv z.nm)]=[(pv (d.nm.1,d.nm.2),pv (d.nm.1,z.nm.2))]
     rw[e3]
    rw[ug]at cy;obtain⟨o,ho,_,_⟩:=bI oq;have nz:oM (pv z.nm)=false:=rfl;simp[nz,dP0];refine⟨_,cy,T++[(d.nm.1,hdD d,hdD z)],R,Bd,fO sk (Pk _),aK i5 (by omega),nN (bB ho),aK qe (by omega),(b1.aside (by omega)).up,by simp;omega,?_,?_,_,_,_,_,_,rfl⟩
    ·intro x hx;rcases PK.mp hx with hx|hx
     ·exact m5 x hx
     ·rw[Pz.mp hx,htk,PZ];exact Pp _ (by simp[hdD])
    ·rw[hr];have e1:hit (tri d).2.1 ((Bd (tri d).1).map hdD)=some (hdD z):=hh;rw[List.append_assoc]
     congr 1
     show(match d.kd,hit d.nm.2 ((Bd d.nm.1).map hdD) with|.settle,_=>_|_,some b=>_|.back _ _,none=>_|.other,none=>_)=_
     rw[hh];cases k9:d.kd with
     |settle=>exact(ek k9).elim
     |back f l=>rfl
     |other=>rfl
   |none=>
    rw[eh]at hh;simp only[eh];refine now ?_;simp
    by_cases c2:wd="back"
    ·obtain⟨f,l,k9⟩:=eb.mp c2;have sj:aV (.ref (h.length+1)) h2=true:=zL qe;simp[c2,sj];have z1:Ext h2 (h2++[MO.lst []]):=Ext.app _ _;have z2:(h2++[MO.lst []])[h2.length]?=some (.lst (([]:List Dd).map dP)):=aF;have gi:h'.length<=h2.length:=y1.len;generalize h2++[MO.lst []]=h4 at z1 z2;have qq:=z1 _ _ qe;have j4:=D9 (x:=d.nm.1) (z:=.ref h2.length) qq (by unfold em;rw[Pl];have:=b.lenR;omega);rw[C3]at j4;have vb:=sk.trans z1;have j7:run (L.map tri) (λ_=>[])=T++run ((L.drop (q+1)).map tri) (λw=>(if w=d.nm.1 then Bd d.nm.1++[d] else Bd w).map hdD):=by
      rw[hr]
      congr 1
      show(match d.kd,hit d.nm.2 ((Bd d.nm.1).map hdD) with|.settle,_=>_|_,some b=>_|.back _ _,none=>_|.other,none=>_)=_
      rw[hh,k9]
      show run _ _=run _ _
      congr 1
      funext w
      show(if w=d.nm.1 then(Bd w).map hdD++[hdD d] else(Bd w).map hdD)=_
      by_cases e:w=d.nm.1
      ·rw[if_pos e,if_pos e,e,PZ];rfl
      ·rw[if_neg e,if_neg e]
     cases e:lk R d.nm.1 with
     |some m'=>
      rw[e]at j4;have b4:=b1.get z1;obtain⟨q1,q2,q3⟩:=b4.at' _ _ e;simp[j4,nI q1];have nq:=fE (p:=dP d) q1 (by rw[Pl];have:=b.len d.nm.1;omega);have b5:=b4.grow e wf ⟨f,l,k9⟩;rw[show(Bd d.nm.1).map dP++[dP d]=(Bd d.nm.1++[d]).map dP by simp]at nq;rw[nq,oP];obtain⟨o,ho,_,qo⟩:=bI (eM z1 oq);exact⟨T,R,_,fO vb (by omega),aK (z1 _ _ i5) (by omega),qo _ (aK ho (by omega)),aK qq (by omega),b5,by omega,m5,j7,_,_,_,_,_,rfl⟩
     |none=>
      rw[e]at j4;simp at j4;rw[Im]at j4;have q1:(h4.set (h.length+1) (.dK (em PV.ref (dpt R d.nm.1 h2.length))))[h2.length]?=some (.lst (([]:List Dd).map dP)):=aK z2 (by omega);simp[j4,nI q1];have nq:=fE (p:=dP d) q1 (by simp);rw[show(([]:List Dd).map dP++[dP d])=[d].map dP from rfl]at nq
      rw[nq,oP];have nox:∀x,lk R x≠some h2.length:=λx z=>by
       have:=(Pg.mp (b1.at' x _ z).1).1;omega
      have b6:=((b1.get z1).aside (n:=h.length+1) (o:=.dK (em PV.ref (dpt R d.nm.1 h2.length))) (Pk _)).skip (n:=h2.length) (o:=.lst ([d].map dP)) nox;have b7:=b6.put (w:=d.nm.1) (bs:=[d]) (m:=h2.length) (bB q1) (by omega) (by omega) nox (λy hy=>by
       rw[Pz.mp hy];exact⟨rfl,wf,f,l,k9⟩) (by simp)
      have eB:Bd d.nm.1=[]:=b.no _ e;rw[eB]at j7;obtain⟨o,ho,_,qo⟩:=bI (eM z1 oq);refine⟨T,_,_,fO (fO vb (by omega)) (by omega),aK (aK (z1 _ _ i5) (by omega)) (by omega),qo _ (aK (aK ho (by omega)) (by omega)),aK (bB qq) (by omega),b7,by omega,m5,j7,_,_,_,_,_,rfl⟩
    ·have k9:d.kd=.other:=by
      cases z:d.kd with
      |settle=>exact(ek z).elim
      |back f l=>exact(c2 (eb.mpr ⟨f,l,z⟩)).elim
      |other=>rfl
     simp[c2];refine⟨T,R,Bd,sk,i5,oq,qe,b1.up,by omega,m5,?_,_,_,_,_,_,rfl⟩;rw[hr]
     congr 1
     show(match d.kd,hit d.nm.2 ((Bd d.nm.1).map hdD) with|.settle,_=>_|_,some b=>_|.back _ _,none=>_|.other,none=>_)=_
     rw[hh,k9];rfl
 ·rintro δ h' ⟨T,R,Bd,x,g1,g2,g3,b,lT,nT,hr,x3,x4,x5,x6,x7,rfl⟩;refine now ?_;simp;have o1:run (L.map tri) (λ_=>[])=T:=by
   rw[hr,Pl,List.drop_length]
   show T++[]=T
   rw[RQ]
  exact k L h.length h' x hp hf (by rw[o1];exact g2)
theorem Hv{p q:Dd}(h:aN (nmL p) (nmL q)=false)(e:p.nm.1=q.nm.1)(n:p.nm≠q.nm):q.nm.2<p.nm.2:=by
 unfold nmL at h;have n2:p.nm.2≠q.nm.2:=λz=>n (Prod.ext e z);have h1:aN [.inr p.nm.1,.inl p.nm.2] [.inr q.nm.1,.inl q.nm.2]=decide (p.nm.2<q.nm.2):=by
  unfold aN;rw[if_pos (by rw[e])];unfold aN;rw[if_neg (λz=>n2 (Sum.inl.inj z))];rfl
 rw[h1]at h;have:=of_decide_eq_false h;omega
theorem Fg{F G:List HD}(hF:Ke F)(hG:Ke G)(h:∀x,x∈F↔x∈G):F=G:=by
 have nF:F.Nodup:=hF.imp λh e=>by rw[e]at h;omega
 have nG:G.Nodup:=hG.imp λh e=>by rw[e]at h;omega
 refine RU (le:=λa b:HD=>b.1<a.1) (λa b _ _ h1 h2=>absurd h1 (by omega)) hF hG ((List.perm_ext_iff_of_nodup nF nG).mpr h)
theorem nV{α:Type}(c:α->Bool)(f:α->PV):∀xs:List α,xs.filterMap (λx=>if c x=true then some (f x) else none)=(xs.filter c).map f
 |[]=>rfl
 |x::xs=>by
  rw[SK,Ro];cases e:c x <;> simp[nV c f xs]
abbrev Nm:=Str×Int
abbrev root:Nm:=("",0)
def fnd{β:Type}:List (Nm×β)->Nm->Option β
 |[],_=>none
 |x::M,p=>if x.1=p then some x.2 else fnd M p
theorem A6{β:Type}(x:Nm×β)(M:List (Nm×β))(p:Nm):fnd (x::M) p=if x.1=p then some x.2 else fnd M p:=rfl
def mF{β:Type}(f:β->PV)(x:Nm×β):PV×PV:=(pv x.1,f x.2)
def tJ{β:Type}(M:List (Nm×β))(p:Nm)(r:β):List (Nm×β):=if(fnd M p).isSome then M.map (λx=>if x.1=p then(x.1,r) else x) else M++[(p,r)]
theorem MM{p:Nm}:(pv p).pl (n+1)=true:=by cases n <;> rfl
theorem pL{β:Type}(f:β->PV)(p:Nm):∀M:List (Nm×β),aH (M.map (mF f)) (pv p)=(fnd M p).map f
 |[]=>rfl
 |x::M=>by
  rw[Pv]
  show aH ((pv x.1,f x.2)::M.map (mF f)) (pv p)=_
  unfold aH fnd
  by_cases e:x.1=p
  ·rw[if_pos (by rw[e]),if_pos e];rfl
  ·rw[if_neg (λz=>e (jR z)),if_neg e,pL f p M]
theorem Ip{β:Type}(f:β->PV)(M:List (Nm×β))(p:Nm)(r:β):cR (M.map (mF f)) (pv p) (f r)=(tJ M p r).map (mF f):=by
 unfold cR tJ;rw[pL];cases e:fnd M p with
 |none=>simp[mF]
 |some z=>
  simp only[RW,RD,if_true,Qq];apply QI;intro x _
  show(if pv x.1=pv p then(pv x.1,f r) else mF f x)=mF f (if x.1=p then(x.1,r) else x)
  by_cases e:x.1=p
  ·rw[if_pos (show pv x.1=pv p by rw[e]),if_pos e];rfl
  ·rw[if_neg (show ¬ pv x.1=pv p from λz=>e (jR z)),if_neg e]
theorem Hw{β:Type}(M:List (Nm×β))(p:Nm)(r:β)(q:Nm):fnd (M.map λx=>if x.1=p then(x.1,r) else x) q=if q=p then(fnd M p).map (λ_=>r) else fnd M q:=by
 induction M with
 |nil=>simp[fnd]
 |cons x M ih=>
  rw[Pv];unfold fnd;rw[ih]
  by_cases h1:x.1=p
  ·rw[if_pos h1]
   by_cases h2:q=p
   ·rw[if_pos (show x.1=q by rw[h1,h2]),if_pos h2,if_pos h1];rfl
   ·have h3:¬ x.1=q:=λz=>h2 (z▸h1);rw[if_neg (show ¬ x.1=q from h3),if_neg h2,if_neg h2,if_neg h3]
  ·rw[if_neg h1]
   by_cases h2:q=p
   ·have h3:¬ x.1=q:=λz=>h1 (z.trans h2);rw[if_neg h3,if_pos h2,if_pos h2,if_neg h1]
   ·rw[if_neg h2,if_neg h2]
theorem Hx{β:Type}(M N:List (Nm×β))(q:Nm):fnd (M++N) q=(fnd M q).or (fnd N q):=by
 induction M with
 |nil=>simp[fnd]
 |cons x M ih=>
  rw[SF,A6,A6]
  by_cases h:x.1=q
  ·rw[if_pos h,if_pos h];rfl
  ·rw[if_neg h,if_neg h,ih]
theorem Fh{β:Type}(M:List (Nm×β))(p:Nm)(r:β)(q:Nm):fnd (tJ M p r) q=if q=p then some r else fnd M q:=by
 unfold tJ;cases e:fnd M p with
 |some z=>simp only[RD,if_true];rw[Hw,e];rfl
 |none=>
  simp only[Option.isSome_none,Qk,if_false];rw[Hx]
  by_cases h:q=p
  ·rw[if_pos h,h,e];simp[fnd]
  ·rw[if_neg h];have:fnd [(p,r)] q=none:=by unfold fnd;rw[if_neg (λz=>h z.symm)];rfl
   rw[this];cases fnd M q <;> rfl
theorem Hy{β:Type}{M:List (Nm×β)}{p:Nm}{r:β}(h:fnd M p=some r):(p,r)∈M:=by
 induction M with
 |nil=>cases h
 |cons x M ih=>
  unfold fnd at h
  by_cases e:x.1=p
  ·rw[if_pos e]at h;cases h
   rw[<-e];exact Pm
  ·rw[if_neg e]at h;exact Pj _ (ih h)
theorem C5{β:Type}{M:List (Nm×β)}{p:Nm}:(fnd M p).isSome=true↔p∈M.map (·.1):=by
 induction M with
 |nil=>simp[fnd]
 |cons x M ih=>
  unfold fnd
  by_cases e:x.1=p
  ·rw[if_pos e];simp[e]
  ·rw[if_neg e,ih,Pv,PC];exact⟨.inr,λz=>z.resolve_left λq=>e q.symm⟩
theorem Dm{β:Type}(M:List (Nm×β))(p:Nm)(r:β):(tJ M p r).map (·.1)=if p∈M.map (·.1) then M.map (·.1) else M.map (·.1)++[p]:=by
 unfold tJ
 by_cases e:(fnd M p).isSome=true
 ·rw[if_pos e,if_pos (C5.mp e),Qq];apply QI;intro x _
  show(if x.1=p then(x.1,r) else x).1=x.1
  split <;> rfl
 ·rw[if_neg e,if_neg (λz=>e (C5.mpr z)),PZ];rfl
theorem Fi{β:Type}(M:List (Nm×β))(p:Nm)(r:β):(tJ M p r).length<=M.length+1:=by
 unfold tJ;split
 ·rw[Pl];omega
 ·simp
variable{kvs:List (PV×PV)}{xs:List PV}
theorem Iq{p:PV}(e:aT h n=some kvs)(hk:(PV.tup xs).ky 6=true)(hl:aH kvs (.tup xs)=some p):vAt (.ref n) (.tup xs) h=.ok p h:=by
 have k1:(PV.tup xs).isKt=true:=hk;have:eS (.tup xs) (.ref n) h=some (aH kvs (.tup xs)):=by simp only[eS,k1,if_true,e,RW]
 unfold vAt;rw[this,hl]
def Tb(h:PH)(n c:Nat)(f:Nm->Option PV):Prop:=∃E:List (Nm×PV),aT h n=some (E.map (mF id))/\E.length<=c/\(E.map (·.1)).Nodup/\∀x,fnd E x=f x
def upN(f:Nm->Option PV)(x:Nm)(v:PV):Nm->Option PV:=λy=>if y=x then some v else f y
theorem Hz(t:aT h n=some kvs)(k:∀o,h[n]?=some o->h'[n]?=some o):aT h' n=some kvs:=by
 obtain⟨o,ho,_,hh⟩:=bI t;exact hh _ (k o ho)
theorem Kg{z:PV}(e:aT h n=some kvs)(hk:(PV.tup xs).ky 6=true):nM (.ref n) [.tup xs,z] h=.ok ((aH kvs (.tup xs)).getD z) h:=by
 have k1:(PV.tup xs).isKt=true:=hk;have:eS (.tup xs) (.ref n) h=some (aH kvs (.tup xs)):=by simp only[eS,k1,if_true,e,RW]
 unfold nM dG;simp only[this]
theorem Tb.nil(e:h[n]?=some (.dK [])):Tb h n 0 λ_=>none:=⟨[],qW e,Pk _,Sa,λ_=>rfl⟩
variable{f:Nm->Option PV}
theorem Tb.keep(t:Tb h n c f)(k:∀o,h[n]?=some o->h'[n]?=some o):Tb h' n c f:=let ⟨E,a,b⟩:=t;⟨E,Hz a k,b⟩
theorem Tb.ext(t:Tb h n c f)(x:Ext h h'):Tb h' n c f:=t.keep λo e=>x _ _ e
theorem Tb.lt(t:Tb h n c f):n<h.length:=by
 obtain⟨E,a,_⟩:=t;obtain⟨o,ho,_⟩:=bI a;exact(Pg.mp ho).1
variable{c':Nat}
theorem Tb.more(t:Tb h n c f)(hc:c<=c'):Tb h n c' f:=let ⟨E,a,b,d⟩:=t;⟨E,a,P6 b hc,d⟩
theorem Tb.dict(t:Tb h n c f):aV (.ref n) h=true:=let ⟨_,a,_⟩:=t;let ⟨_,_,d,_⟩:=bI a;d
theorem Tb.has(t:Tb h n c f)(x:Nm):iD (pv x) (.ref n) h=.ok (.bl (f x).isSome) h:=by
 obtain⟨E,a,_,_,e⟩:=t;have:iD (pv x) (.ref n) h=.ok (.bl (aH (E.map (mF id)) (pv x)).isSome) h:=EM a rfl;rw[this,pL,QY,e]
theorem Tb.hasNo(t:Tb h n c f)(x:Nm):bG (pv x) (.ref n) h=.ok (.bl (!(f x).isSome)) h:=by
 obtain⟨E,a,_,_,e⟩:=t;have:bG (pv x) (.ref n) h=.ok (.bl (!(aH (E.map (mF id)) (pv x)).isSome)) h:=vK a rfl;rw[this,pL,QY,e]
variable{v:PV}
theorem Tb.at'(t:Tb h n c f){x:Nm}(q:f x=some v):vAt (.ref n) (pv x) h=.ok v h:=by
 obtain⟨E,a,_,_,e⟩:=t;exact Iq a rfl (by show aH _ (pv x)=_;rw[pL,e,q];rfl)
theorem Tb.get(t:Tb h n c f)(x:Nm)(z:PV):nM (.ref n) [pv x,z] h=.ok ((f x).getD z) h:=by
 obtain⟨E,a,_,_,e⟩:=t;have:nM (.ref n) [pv x,z] h=.ok ((aH (E.map (mF id)) (pv x)).getD z) h:=Kg a rfl;rw[this,pL,e,Option.map_id,id]
set_option tactic.hygienic true in
theorem HA{β:Type}{M:List (Nm×β)}{p:Nm}{r:β}(h:(M.map (·.1)).Nodup):((tJ M p r).map (·.1)).Nodup:=by
 rw[Dm];split
 ·exact h
 ·rename_i c;rw[Qx];exact⟨h,by simp,λa ha b hb e=>c (by rw[Pz.mp hb]at e;exact e▸ha)⟩
theorem Tb.put(t:Tb h n c f)(hc:c<=1000)(x:Nm)(v:PV):∃o,eW (.ref n) (pv x) v h=some (h.set n o)/\Tb (h.set n o) n (c+1) (upN f x v):=by
 obtain⟨E,a,b,d,e⟩:=t;obtain⟨o,ho,_⟩:=bI a;have hp:eW (.ref n) (pv x) v h=some (h.set n (.dD (cR (E.map (mF id)) (pv x) (id v)))):=BV a rfl (by rw[Pl];omega);rw[Ip]at hp;refine⟨_,hp,tJ E x v,nN (bB ho),P6 (Fi _ _ _) (by omega),HA d,λy=>?_⟩;rw[Fh,e];rfl
structure LS where
 bs:Str->List HD
 tk:Nm->Option Nm
def isB:Kd->Bool
 |.back _ _=>true
 |_=>false
def fW(s:LS)(w:Str)(b:HD):Bool:=(s.tk (w,b.1)).isNone
def gW(s:LS)(d:Str×HD):Option HD:=((s.bs d.1).filter λb=>reach b d.2.1).find? (fW s d.1)
def bU(s:LS)(d:Str×HD):LS:=if d.2.2=.settle then⟨λw=>if w=d.1 then[] else s.bs w,s.tk⟩ else
 ⟨λw=>if w=d.1 then(if isB d.2.2=true then s.bs w++[d.2] else s.bs w) else s.bs w,λp=>if p=(d.1,d.2.1) then(gW s d).map (λb=>(d.1,b.1)) else s.tk p⟩
def lkR(T:List (Str×HD×HD))(p:Nm):Option Nm:=(T.find? λx=>decide ((x.1,x.2.1.1)=p)).map λx=>(x.1,x.2.2.1)
theorem tK(x:Str×HD×HD)(T:List (Str×HD×HD))(p:Nm):lkR (x::T) p=if(x.1,x.2.1.1)=p then some (x.1,x.2.2.1) else lkR T p:=by
 unfold lkR;rw[QS]
 by_cases e:(x.1,x.2.1.1)=p
 ·rw[decide_eq_true e,if_pos e];rfl
 ·rw[decide_eq_false e,if_neg e]
theorem vP{α:Type}(f g:α->Bool):∀xs:List α,(xs.filter f).find? g=(xs.filter g).find? f
 |[]=>rfl
 |x::xs=>by
  have ih:=vP f g xs;cases hf:f x <;> cases hg:g x <;> simp[hf,hg,ih]
theorem tL:∀{G:List (Str×HD)}{B:Str->List HD}{x:Str×HD×HD},x∈run G B->(x.1,x.2.1)∈G
 |[],_,_,h=>nomatch h
 |d::G,B,x,h=>by
  rw[jQ]at h;split at h
  ·exact Pj _ (tL h)
  ·rcases PC.mp h with rfl|h
   ·exact Pm
   ·exact Pj _ (tL h)
  ·exact Pj _ (tL h)
  ·exact Pj _ (tL h)
theorem core:∀(G:List (Str×HD))(s:LS),G.Pairwise (λa b=>a.1=b.1->b.2.1<a.2.1)->(∀w,∀b∈s.bs w,∀d∈G,d.1=w->d.2.1<b.1)->(∀d∈G,s.tk (d.1,d.2.1)=none)->
  ∀p,(lkR (run G λw=>(s.bs w).filter (fW s w)) p).or (s.tk p)=(G.foldl bU s).tk p
 |[],s,_,_,_,p=>by simp[run,lkR]
 |d::G,s,hp,hb,hn,p=>by
  have jh:=P5.mp hp;have zk:=hn d Pm;have hh:hit d.2.1 ((s.bs d.1).filter (fW s d.1))=gW s d:=(vP _ _ _).symm;have nG:∀e∈G,(e.1,e.2.1)≠(d.1,d.2.1):=λe he z=>by
   have z1:e.1=d.1:=(Prod.mk.inj z).1;have z2:e.2.1=d.2.1:=(Prod.mk.inj z).2;have:=jh.1 e he z1.symm;omega
  rw[Rx,jQ]
  -- what the step leaves of the backs that fq
  by_cases es:d.2.2=.settle
  ·have el:bU s d=⟨λw=>if w=d.1 then[] else s.bs w,s.tk⟩:=if_pos es;have:=core G (bU s d) jh.2 (by
    rw[el];intro w b fj e he ew
    by_cases c:w=d.1
    ·simp[c]at fj
    ·simp[c]at fj;exact hb w b fj e (Pj _ he) ew) (by rw[el];exact λe he=>hn e (Pj _ he)) p
   rw[<-this,el];simp only[es]
   congr 3
   funext w
   by_cases c:w=d.1 <;> simp[c]
   rfl
  ·have el:bU s d=⟨λw=>if w=d.1 then(if isB d.2.2=true then s.bs w++[d.2] else s.bs w) else s.bs w,λp=>if p=(d.1,d.2.1) then(gW s d).map (λb=>(d.1,b.1)) else s.tk p⟩:=if_neg es;have ih:=core G (bU s d) jh.2 (by
    rw[el];intro w b fj e he ew
    by_cases c:w=d.1
    ·simp only[c,if_true]at fj;have hold:∀b∈s.bs d.1,e.2.1<b.1:=λb hb'=>hb d.1 b hb' e (Pj _ he) (by rw[ew,c]);split at fj
     ·rcases PK.mp fj with h|h
      ·exact hold b h
      ·rw[Pz.mp h];exact jh.1 e he (by rw[ew,c])
     ·exact hold b fj
    ·simp only[c,if_false]at fj;exact hb w b fj e (Pj _ he) ew) (by
    rw[el];intro e he
    show(if(e.1,e.2.1)=(d.1,d.2.1) then _ else _)=_
    rw[if_neg (nG e he)];exact hn e (Pj _ he)) p
   -- the backs that fq behind the step
   have keep:∀w,∀b∈s.bs w,fW (bU s d) w b=fW s w b:=λw b fj=>by
    unfold fW;rw[el]
    show((if(w,b.1)=(d.1,d.2.1) then _ else _):Option Nm).isNone=_
    rw[if_neg λz=>by
     have z1:w=d.1:=(Prod.mk.inj z).1;have z2:b.1=d.2.1:=(Prod.mk.inj z).2;have:=hb w b fj d Pm z1.symm;omega]
   have gv:∀w,(s.bs w).filter (fW (bU s d) w)=(s.bs w).filter (fW s w):=λw=>List.filter_congr (keep w);have own:fW (bU s d) d.1 d.2=(gW s d).isNone:=by
    unfold fW;rw[el]
    show((if(d.1,d.2.1)=(d.1,d.2.1) then _ else _):Option Nm).isNone=_
    rw[if_pos rfl];cases gW s d <;> rfl
   have fq:(λw=>((bU s d).bs w).filter (fW (bU s d) w))=λw=>if w=d.1/\isB d.2.2=true/\gW s d=none then(s.bs w).filter (fW s w)++[d.2] else(s.bs w).filter (fW s w):=by
    funext w
    have e0:(bU s d).bs w=if w=d.1 then(if isB d.2.2=true then s.bs w++[d.2] else s.bs w) else s.bs w:=by rw[el]
    rw[e0]
    by_cases c:w=d.1
    ·subst c;cases hB:isB d.2.2 with
     |false=>simp[gv]
     |true=>
      simp only[if_true,List.filter_append,gv,true_and];have:List.filter (fW (bU s d) d.1) [d.2]=if gW s d=none then[d.2] else[]:=by
       rw[Ro,own];cases gW s d <;> simp
      rw[this];cases gW s d <;> simp
    ·simp[c,gv]
   rw[fq]at ih;have Ox:(bU s d).tk p=if p=(d.1,d.2.1) then(gW s d).map (λb=>(d.1,b.1)) else s.tk p:=by rw[el]
   rw[Ox]at ih;rw[<-ih];simp only[hh];have no:∀B,lkR (run G B) (d.1,d.2.1)=none:=λB=>by
    unfold lkR;rw[List.find?_eq_none.mpr]
    ·rfl
    ·intro x hx z;exact nG _ (tL hx) (of_decide_eq_true z)
   have jf:∀(B:Str->List HD)(b:HD),(lkR ((d.1,d.2,b)::run G B) p).or (s.tk p)=(lkR (run G B) p).or (if p=(d.1,d.2.1) then some (d.1,b.1) else s.tk p):=λB b=>by
    rw[tK]
    by_cases c:(d.1,d.2.1)=p
    ·subst c;rw[if_pos rfl,if_pos rfl,no];rfl
    ·rw[if_neg c,if_neg λz=>c z.symm]
   have jr:(if p=(d.1,d.2.1) then none else s.tk p)=s.tk p:=by
    by_cases c:p=(d.1,d.2.1)
    ·rw[if_pos c,c,zk]
    ·rw[if_neg c]
   cases hk:d.2.2 with
   |settle=>exact(es hk).elim
   |back f l=>
    cases hpk:gW s d with
    |some b=>
     simp only[reduceCtorEq,and_false,if_false];exact jf _ b
    |none=>
     simp only[isB,and_true,Option.map_none,jr]
   |other=>
    cases hpk:gW s d with
    |some b=>
     simp only[reduceCtorEq,and_false,if_false];exact jf _ b
    |none=>
     simp only[isB,Qk,false_and,and_false,if_false,Option.map_none,jr]
theorem B'(p:Nm):∀T:List (Str×HD×HD),lkR T p=(((T.filter λx=>decide (x.1=p.1)).map (·.2)).find? λy=>decide (y.1.1=p.2)).map λy=>(p.1,y.2.1)
 |[]=>rfl
 |x::T=>by
  rw[tK,B' p T,Ro]
  by_cases e:x.1=p.1
  ·rw[if_pos (decide_eq_true e),Pv,QS]
   by_cases e2:x.2.1.1=p.2
   ·rw[if_pos (Prod.ext e e2),decide_eq_true e2,e];rfl
   ·rw[if_neg (λz=>e2 (by rw[<-z])),decide_eq_false e2]
  ·rw[if_neg (λz=>e (by rw[<-z])),if_neg (by simpa using e)]
abbrev Down(G:List (Str×HD)):Prop:=G.Pairwise (λa b=>a.1=b.1->b.2.1<a.2.1)
theorem nW{w:Str}:∀{G:List (Str×HD)},Down G->Ke (ofH w G)
 |[],_=>.nil
 |d::G,h=>by
  have h':=P5.mp h;unfold ofH;rw[Ro]
  by_cases e:d.1=w
  ·rw[if_pos (decide_eq_true e),Pv];refine P5.mpr ⟨λy hy=>?_,nW h'.2⟩;obtain⟨x,hx,rfl⟩:=Pw.mp hy;obtain⟨h1,h2⟩:=Q3.mp hx;exact h'.1 x h1 (e.trans (of_decide_eq_true h2).symm)
  ·rw[if_neg (by simpa using e)]
   exact nW h'.2
variable{G:List (Str×HD)}{y:HD}
theorem Fj:y∈ofH w G↔(w,y)∈G:=by
 unfold ofH;rw[Pw];constructor
 ·rintro⟨x,hx,rfl⟩;obtain⟨h1,h2⟩:=Q3.mp hx;have:x.1=w:=of_decide_eq_true h2;rw[<-this];exact h1
 ·exact λh=>⟨(w,y),Q3.mpr ⟨h,decide_eq_true rfl⟩,rfl⟩
variable{F:List (Str×HD)}
theorem HB(hF:Down F)(hG:Down G)(h:∀x,x∈F↔x∈G)(p:Nm):lkR (run F λ_=>[]) p=lkR (run G λ_=>[]) p:=by
 rw[B',B',gG,gG,Fg (nW hF) (nW hG) λx=>by rw[Fj,Fj,h]]
def aW(w:Str)(n:Int)(R:List Nm)(o:Str×HD):List Nm:=if o.1≠w\/o.2.1<=n then R else if o.2.2=.settle then[] else if reach o.2 n=true then R++[(o.1,o.2.1)] else R
set_option tactic.hygienic true in
theorem C6{b:HD}{n:Int}(h:reach b n=true):isB b.2=true:=by
 unfold reach at h;unfold isB;split at h
 ·first|(rename_i e;rw[e])|rfl
 ·cases h
theorem A7(w:Str)(n:Int):∀(A:List (Str×HD))(s:LS),(∀o∈A,o.1=w->n<o.2.1)->
  A.foldl (aW w n) (((s.bs w).filter λb=>reach b n).map λb=>(w,b.1))=(((A.foldl bU s).bs w).filter λb=>reach b n).map λb=>(w,b.1)
 |[],s,_=>rfl
 |o::A,s,h=>by
  rw[Rx,Rx,<-A7 w n A (bU s o) λx hx=>h x (Pj _ hx)]
  congr 1
  unfold aW bU
  by_cases e:o.1=w
  ·subst e;have hn:=h o Pm rfl;rw[if_neg (by simp;omega)]
   by_cases es:o.2.2=.settle
   ·simp[es]
   ·rw[if_neg es,if_neg es];simp only[if_true]
    by_cases hr:reach o.2 n=true
    ·simp[hr,C6 hr,List.filter_append]
    ·have o1:reach o.2 n=false:=by simpa using hr
     rw[if_neg hr];cases hB:isB o.2.2 <;> simp[o1,List.filter_append]
  ·rw[if_pos (.inl e)];have e':¬ w=o.1:=λz=>e z.symm;split <;> simp[e']
theorem tN(w:Str)(n:Int):∀(P:List (Str×HD))(R:List Nm),(∀o∈P,o.1=w->o.2.1<=n)->P.foldl (aW w n) R=R
 |[],_,_=>rfl
 |o::P,R,h=>by
  rw[Rx];have:aW w n R o=R:=by
   unfold aW
   by_cases e:o.1=w
   ·rw[if_pos (.inr (h o Pm e))]
   ·rw[if_pos (.inl e)]
  rw[this];exact tN w n P R λx hx=>h x (Pj _ hx)
def LS0:LS:=⟨λ_=>[],λ_=>none⟩
variable{A:List (Str×HD)}
theorem Fk{P:List (Str×HD)}{d:Str×HD}(h:Down (A++d::P)):(A++d::P).foldl (aW d.1 d.2.1) []=(((A.foldl bU LS0).bs d.1).filter λb=>reach b d.2.1).map λb=>(d.1,b.1):=by
 obtain⟨h1,h2,h3⟩:=List.pairwise_append.mp h;rw[List.foldl_append];have:=A7 d.1 d.2.1 A LS0 λo ho e=>h3 o ho d Pm e;rw[show(((LS0.bs d.1).filter λb=>reach b d.2.1).map λb=>(d.1,b.1))=([]:List Nm) from rfl]at this
 rw[this];refine tN _ _ _ _ λo ho e=>?_;rcases PC.mp ho with rfl|ho
 ·exact Int.le_refl _
 ·have:=(P5.mp h2).1 o ho e.symm;omega
theorem core0(h:Down G)(p:Nm):(G.foldl bU LS0).tk p=lkR (run G λ_=>[]) p:=by
 have:=core G LS0 h (λw b hb=>nomatch hb) (λ_ _=>rfl) p;rw[<-this];exact Option.or_none
variable{E:FE}{body:Ms}{h1:PH}{ms:Ma}{tg:Mg}{δ:Ev}
theorem Fm(I:Nat->Ev->PH->Prop)(e:ms δ h=.ok [.ref n] h1)(hn:h1[n]?=some (.lst xs))(h0:I 0 δ h1)(keep:∀q δ h,q<=xs.length->I q δ h->h[n]?=some (.lst xs))(step:∀(q:Nat) x δ h,xs.reverse[q]?=some x->I q δ h->∃δ1,tg x δ=some δ1/\(body δ1 h).W { nx:=I (q+1),ct:=I (q+1),rt:=E.rt,bk:=E.nx })(fin:∀δ h,I xs.length δ h->E.nx δ h):(cE (B4 ms) tg body δ h).W E:=by
 have hk:∀{h:PH},h[n]?=some (.lst xs)->sE n xs h=true:=λ{h} e=>by
  have e3:aL h n=some xs:=by unfold aL;rw[e]
  unfold sE;rw[e3];exact PV.beqs_self xs
 unfold cE B4;rw[e];have e2:rvI [.ref n] h1=.ok ⟨xs.reverse,sE n xs⟩ h1:=by
  have e3:aL h1 n=some xs:=by unfold aL;rw[hn]
  unfold rvI;simp only[e3]
 rw[Rs.bind_ok,e2,Rs.fl_ok];refine oQ I _ 0 δ h1 h0 (λq x δ h _ hx hi=>?_) (λδ h hi=>?_)
 ·have cz:xs.reverse[q]?=some x:=by simpa using hx
  have:=(Pg.mp cz).1;rw[QJ]at this;exact⟨hk (keep q δ h (by omega) hi),step q x δ h cz hi⟩
 ·have au:I xs.length δ h:=by simpa using hi
  exact⟨hk (keep _ δ h (Pk _) au),fin δ h au⟩
def RcD(h:PH)(r:Nat)(R:List Nm):Prop:=aT h r=some ((R.map λx=>(x,PV.bl true)).map (mF id))/\R.Nodup/\R.length<=63
theorem Kh{R:List Nm}{x:Nm}(h:x∉R):fnd (R.map λx=>(x,PV.bl true)) x=none:=by
 cases e:fnd (R.map λx=>(x,PV.bl true)) x with
 |none=>rfl
 |some v=>
  obtain⟨y,hy,e2⟩:=Pw.mp (Hy e);cases e2
  exact(h hy).elim
variable{r:Nat}
theorem RcD.put{R:List Nm}(t:RcD h r R){x:Nm}(hx:x∉R)(hl:R.length<63):∃o,eW (.ref r) (pv x) (.bl true) h=some (h.set r o)/\RcD (h.set r o) r (R++[x]):=by
 obtain⟨a,nd,_⟩:=t;obtain⟨o,ho,_⟩:=bI a;have hp:eW (.ref r) (pv x) (.bl true) h=some (h.set r (.dD (cR ((R.map λx=>(x,PV.bl true)).map (mF id)) (pv x) (id (PV.bl true))))):=BV a rfl (by rw[Pl,Pl];omega);rw[Ip]at hp;refine⟨_,hp,?_,?_,by simp;omega⟩
 ·rw[nN (bB ho)];unfold tJ;rw[Kh hx];simp
 ·rw[Qx];exact⟨nd,by simp,λa ha b hb=>by rw[Pz.mp hb];exact λz=>hx (z▸ha)⟩
theorem RcD.clr{R:List Nm}(t:RcD h r R):qI (.ref r) [] h=.ok .non (h.set r (.dD []))/\RcD (h.set r (.dD [])) r []:=by
 obtain⟨a,nd,_⟩:=t;obtain⟨o,ho,_⟩:=bI a;exact⟨EZ a,nN (bB ho),Sa,by simp⟩
theorem RcD.dict{R:List Nm}(t:RcD h r R):aV (.ref r) h=true:=let ⟨_,_,d,_⟩:=bI t.1;d
theorem vQ(w:Str)(n:Int):∀(A:List (Str×HD))(R:List Nm)(x:Nm),x∈A.foldl (aW w n) R->x∈R\/∃o∈A,(o.1,o.2.1)=x
 |[],R,x,h=>.inl h
 |o::A,R,x,h=>by
  rw[Rx]at h;rcases vQ w n A _ x h with h|⟨y,hy,e⟩
  ·unfold aW at h;split at h
   ·exact .inl h
   ·split at h
    ·cases h
    ·split at h
     ·rcases PK.mp h with h|h
      ·exact .inl h
      ·exact .inr ⟨o,Pm,(Pz.mp h).symm⟩
     ·exact .inl h
  ·exact .inr ⟨y,Pj _ hy,e⟩
theorem pM(w:Str)(n:Int):∀(A:List (Str×HD))(R:List Nm),(A.foldl (aW w n) R).length<=R.length+A.length
 |[],R=>by simp
 |o::A,R=>by
  rw[Rx];have h1:=pM w n A (aW w n R o);have h2:(aW w n R o).length<=R.length+1:=by
   unfold aW;split
   ·omega
   ·split
    ·simp
    ·split <;> simp
  rw[Qs];omega
variable{x1:Option PV}
theorem Fo{o d:Dd}(wo:Wf o)(wd:Wf d){R:List Nm}(t:RcD h r R)(hn:o.nm∉R)(hl:R.length<63)(E:FE)(k:∀h',h'.length=h.length->(∀a,a≠r->h'[a]?=h[a]?)->RcD h' r (aW d.nm.1 d.nm.2 R (tri o))->E.nx [some (.ref n),x1,some (dP d),some (.ref r),some (dP o)] h'/\E.ct [some (.ref n),x1,some (dP d),some (.ref r),some (dP o)] h'):
  (gR [some (.ref n),x1,some (dP d),some (.ref r),some (dP o)] h).W E:=by
 obtain⟨w,rr,ea,es,eb⟩:=xX wo;have same:=k h rfl λ_ _=>rfl;unfold gR;rw[aD,cG]
 by_cases c1:o.nm.1=d.nm.1
 ·by_cases c2:o.nm.2<=d.nm.2
  ·simp[dP0,pv0,pv1,c1,c2];have e:aW d.nm.1 d.nm.2 R (tri o)=R:=if_pos (.inr c2);exact(same (by rw[e];exact t)).2
  ·have cc:¬ ((tri o).1≠d.nm.1\/(tri o).2.1<=d.nm.2):=λz=>z.elim (λz=>z c1) c2;simp[dP0,pv0,pv1,c1,c2];refine now ?_;rw[cG]
   by_cases c3:w="settle"
   ·have ek:=es.mp c3;have e:aW d.nm.1 d.nm.2 R (tri o)=[]:=by
     unfold aW;rw[if_neg cc,if_pos (show(tri o).2.2=.settle from ek)]
    obtain⟨v,t2⟩:=t.clr;simp[dP2,ea,c3,t.dict,v];refine(k _ (by simp) (λa ha=>?_) (by rw[e];exact t2)).1;rw[PQ (λz=>ha z.symm)]
   ·have ek:¬ (tri o).2.2=.settle:=λz=>c3 (es.mpr z);simp[dP2,ea,c3]
    by_cases c4:w="back"
    ·obtain⟨f,l,e5⟩:=eb.mp c4;have wa:=wo.act;rw[e5]at wa;have wa:o.act=[.str "back",.int f,.int l]:=wa;rw[ea]at wa;obtain rfl:=(List.cons.inj wa).2;rw[if_pos c4];have a1:atI [PV.str w,.int f,.int l] 1=some (.int f):=rfl;have a2:atI [PV.str w,.int f,.int l] 2=some (.int l):=rfl;have hr:reach (tri o).2 d.nm.2=decide (f<=d.nm.2/\d.nm.2<=l):=by
      unfold reach;rw[show(tri o).2.2=.back f l from e5]
     by_cases c5:f<=d.nm.2/\d.nm.2<=l
     ·have e:aW d.nm.1 d.nm.2 R (tri o)=R++[o.nm]:=by
       unfold aW;rw[if_neg cc,if_neg ek,hr,if_pos (decide_eq_true c5)];rfl
      obtain⟨o',v,t2⟩:=t.put hn hl;simp[a1,a2,dP0,pv1,c5,v];refine(k _ (QG ..) (λa ha=>?_) (by rw[e];exact t2)).1;rw[PQ (λz=>ha z.symm)]
     ·have e:aW d.nm.1 d.nm.2 R (tri o)=R:=by
       unfold aW;rw[if_neg cc,if_neg ek,hr,if_neg (by simpa using c5)]
      have fin:=(same (by rw[e];exact t)).1
      by_cases c6:f<=d.nm.2
      ·have c7:¬ d.nm.2<=l:=λz=>c5 ⟨c6,z⟩;simp[a1,a2,dP0,pv1,c6,c7];exact fin
      ·simp[a1,a2,dP0,pv1,c6];exact fin
    ·have e:aW d.nm.1 d.nm.2 R (tri o)=R:=by
      unfold aW;rw[if_neg cc,if_neg ek,if_neg];intro z;have:=C6 z;cases e6:o.kd with
      |back f l=>exact c4 (eb.mpr ⟨f,l,e6⟩)
      |settle=>exact ek e6
      |other=>
       rw[show(tri o).2.2=.other from e6]at this
       cases this
     rw[if_neg c4];exact(same (by rw[e];exact t)).1
 ·simp[dP0,pv0,pv1,c1];have e:aW d.nm.1 d.nm.2 R (tri o)=R:=if_pos (.inl c1);exact(same (by rw[e];exact t)).2
theorem Fp{ds:List Dd}{q:Nat}{x:PV}(h:(ds.map dP).reverse[q]?=some x):∃o,ds.reverse[q]?=some o/\x=dP o:=by
 rw[<-SJ,Pu]at h;obtain⟨o,h1,h2⟩:=PB.mp h;exact⟨o,h1,h2.symm⟩
variable{L:List Dd}
theorem jT{q:Nat}{o:Dd}(nd:(L.map (·.nm)).Nodup)(h:L[q]?=some o):o.nm∉(L.take q).map (·.nm):=λz=>by
 have e1:L.map (·.nm)=(L.take q).map (·.nm)++(o::L.drop (q+1)).map (·.nm):=by rw[<-PZ,<-drop_cons h,Q2]
 rw[e1,Qx]at nd;exact nd.2.2 _ z _ (by simp) rfl
def eV(ds:List Dd)(d:Dd):List Nm:=(ds.reverse.map tri).foldl (aW d.nm.1 d.nm.2) []
variable{x4:Option PV}
theorem Ba{ds:List Dd}(hw:∀d∈ds,Wf d)(hl:ds.length<=40)(nd:(ds.map (·.nm)).Nodup){d:Dd}(wd:Wf d)(g:h[n]?=some (.lst (ds.map dP)))(t:RcD h r [])(nr:n≠r)(E:FE)(k:∀h' x4,h'.length=h.length->(∀a,a≠r->h'[a]?=h[a]?)->RcD h' r (eV ds d)->E.nx [some (.ref n),x1,some (dP d),some (.ref r),x4] h'):
  (cE (B4 (aA (mV 0) aC)) (gN 4) gR [some (.ref n),x1,some (dP d),some (.ref r),x4] h).W E:=by
 have qp:(ds.reverse.map (·.nm)).Nodup:=by rw[SJ];exact nd.perm (RT _).symm
 refine Fm (n:=n) (xs:=ds.map dP) (h1:=h) (λq δ h'=>h'.length=h.length/\(∀a,a≠r->h'[a]?=h[a]?)/\RcD h' r (((ds.reverse.take q).map tri).foldl (aW d.nm.1 d.nm.2) [])/\∃x4,δ=[some (.ref n),x1,some (dP d),some (.ref r),x4]) (by simp) g ⟨rfl,λ_ _=>rfl,t,_,rfl⟩ (λq δ h' _ i=>by rw[i.2.1 n nr];exact g) ?_ ?_
 ·rintro q x δ h' hx ⟨hlen,fr,t',x4,rfl⟩;obtain⟨o,ho,rfl⟩:=Fp hx;have mo:o∈ds:=List.mem_reverse.mp (PD ho);have hq:q<ds.reverse.length:=(Pg.mp ho).1;rw[QJ]at hq;refine⟨_,rfl,?_⟩;have ln:=pM d.nm.1 d.nm.2 ((ds.reverse.take q).map tri) [];rw[Pl,Q9]at ln;have ln0:([]:List Nm).length=0:=rfl;refine Fo (hw o mo) wd t' (λz=>?_) (by omega) _ λh2 gi k8 t2=>?_
  ·rcases vQ _ _ _ _ _ z with z|⟨y,hy,e⟩
   ·cases z
   ·obtain⟨b,hb,rfl⟩:=Pw.mp hy;exact jT qp ho (Pw.mpr ⟨b,hb,e⟩)
  ·have:(((ds.reverse.take (q+1)).map tri).foldl (aW d.nm.1 d.nm.2) [])=aW d.nm.1 d.nm.2 (((ds.reverse.take q).map tri).foldl (aW d.nm.1 d.nm.2) []) (tri o):=by
    rw[Qh,ho,PZ,List.foldl_append];rfl
   have nx:h2.length=h.length/\(∀a,a≠r->h2[a]?=h[a]?)/\RcD h2 r (((ds.reverse.take (q+1)).map tri).foldl (aW d.nm.1 d.nm.2) [])/\∃x4,[some (.ref n),x1,some (dP d),some (.ref r),some (dP o)]=[some (.ref n),x1,some (dP d),some (.ref r),x4]:=
    ⟨by omega,λa ha=>by rw[k8 a ha,fr a ha],by rw[this];exact t2,_,rfl⟩
   exact⟨nx,nx⟩
 ·rintro δ h' ⟨hlen,fr,t',x4,rfl⟩;refine k h' x4 hlen fr ?_;have:ds.reverse.take (ds.map dP).length=ds.reverse:=by rw[Pl,<-QJ,QK]
  rw[this]at t';exact t'
set_option tactic.hygienic true in
theorem Dn(e:aT h n=some kvs):∃o,h[n]?=some o/\nU (some o)=true/\nR o=some (kvs.map (·.1)):=by
 unfold aT at e;split at e
 ·rename_i k hk;cases e;exact⟨_,hk,rfl,rfl⟩
 ·rename_i hk;cases e;exact⟨_,hk,rfl,rfl⟩
 ·cases e
def TkA(ds:List Dd)(h:PH)(t m:Nat)(D:List Dd):Prop:=∃f,Tb h t D.length f/\(∀d∈D,d.kd≠.settle->∃l,f d.nm=some (.ref l)/\m<=l/\l≠t/\h[l]?=some (.lst ((eV ds d).map pv)))/\∀p,(∀d∈D,d.nm=p->d.kd=.settle)->f p=none
theorem TkA.ext{ds D:List Dd}{t:Nat}(T:TkA ds h t m D)(k:∀a,m<=a->∀o,h[a]?=some o->h'[a]?=some o)(ht:m<=t):TkA ds h' t m D:=by
 obtain⟨f,a,b,c⟩:=T;exact⟨f,a.keep λo=>k t ht o,λd hd hs=>let ⟨l,l1,l2,l3,l4⟩:=b d hd hs;⟨l,l1,l2,l3,k l l2 _ l4⟩,c⟩
theorem Fq{ds:List Dd}(hw:∀d∈ds,Wf d)(hl:ds.length<=40)(nd:(ds.map (·.nm)).Nodup)(g:h[n]?=some (.lst (ds.map dP)))(Q:PV->PH->Prop)(k:∀h',Ext h h'->TkA ds h' h.length h.length ds->Q (.ref h.length) h'):(xO [.ref n] h).W Q:=by
 refine cA ?_;unfold xN;rw[aD];simp;refine now ?_;have za:n<h.length:=(Pg.mp g).1;have xA:Ext h (h++[MO.dK []]):=Ext.app _ _;have gA:(h++[MO.dK []])[h.length]?=some (.dK []):=aF;have g0:=xA _ _ g;generalize h++[MO.dK []]=hA at xA gA g0;rw[aD];refine fF (n:=n) (xs:=ds.map dP) (h1:=hA) (λq δ h'=>Ext h h'/\TkA ds h' h.length h.length (ds.take q)/\∃x2 x3 x4,δ=[some (.ref n),some (.ref h.length),x2,x3,x4]) (by simp) g0 ⟨xA,⟨λ_=>none,(Tb.nil gA).more (P8 _),λd hd=>(nomatch hd),λ_ _=>rfl⟩,_,_,_,rfl⟩ (λq δ h' _ i=>i.1 _ _ g) ?_ ?_
 ·rintro q x δ h' hx ⟨x1,T,x2,x3,x4,rfl⟩;rw[Pu]at hx;obtain⟨d,ik,rfl⟩:=PB.mp hx;have md:d∈ds:=PD ik;have hq:q<ds.length:=(Pg.mp ik).1;have wd:=hw d md;obtain⟨Pe,rr,ea,es,_⟩:=xX wd;have htk:ds.take (q+1)=ds.take q++[d]:=by rw[Qh,ik];rfl
  have bf:=jT nd ik;have ba:=x1.len;refine⟨_,rfl,?_⟩;unfold pF;rw[aD];simp;refine now ?_;rw[aD];have y1:Ext h' (h'++[MO.dK []]):=Ext.app _ _;have y2:(h'++[MO.dK []])[h'.length]?=some (.dK []):=aF;have yl:(h'++[MO.dK []]).length=h'.length+1:=by simp
  generalize h'++[MO.dK []]=hB at y1 y2 yl;have T1:=T.ext (h':=hB) (λa _ o e=>y1 _ _ e) (Pk _);obtain⟨fT,tT,_⟩:=id T;have y9:=tT.lt;refine Ba hw hl nd wd (y1 _ _ (x1 _ _ g)) ⟨qW y2,Sa,by simp⟩ (by omega) _ λhC x4 lC pq R=>?_;refine now ?_;rw[cG];have xC:Ext h' hC:=λa o e=>by
   have:a<h'.length:=(Pg.mp e).1;rw[pq a (by omega)];exact y1 _ _ e
  have T2:=T.ext (h':=hC) (λa _ o e=>xC _ _ e) (Pk _)
  by_cases c:Pe="settle"
  ·have ek:=es.mp c;simp[dP2,ea,c];refine⟨x1.trans xC,?_⟩;rw[htk];obtain⟨f,a1,a2,a3⟩:=T2;refine⟨f,a1.more (by simp),λe he hs=>?_,λp hp=>a3 p λe he=>hp e (Qe _ he)⟩;rcases PK.mp he with he|he
   ·exact a2 e he hs
   ·rw[Pz.mp he]at hs;exact(hs ek).elim
  ·have ek:d.kd≠.settle:=λz=>c (es.mpr z);obtain⟨o,ho,hd,hk⟩:=Dn R.1;have lenR:(eV ds d).length<64:=by have:=R.2.2;omega
   have ys:((((eV ds d).map λx=>(x,PV.bl true)).map (mF id)).map (·.1))=(eV ds d).map pv:=by
    rw[Qq,Qq];rfl
   rw[ys]at hk;have v1:=Dh ho hd;have z1:Ext hC (hC++[MO.vw 2 h'.length]):=Ext.app _ _;have z2:(hC++[MO.vw 2 h'.length])[hC.length]?=some (.vw 2 h'.length):=aF;have v2:=Dj z2 (z1 _ _ ho) hk (by rw[Pl];exact lenR);have z3:Ext (hC++[MO.vw 2 h'.length]) (hC++[MO.vw 2 h'.length]++[MO.lst ((eV ds d).map pv)]):=Ext.app _ _;have z4:(hC++[MO.vw 2 h'.length]++[MO.lst ((eV ds d).map pv)])[(hC++[MO.vw 2 h'.length]).length]?=some (.lst ((eV ds d).map pv)):=aF;have zl:hC.length<(hC++[MO.vw 2 h'.length]).length:=by simp
   generalize (hC++[MO.vw 2 h'.length]).length=ll at v2 z4 zl;generalize hC++[MO.vw 2 h'.length]++[MO.lst ((eV ds d).map pv)]=hD at v2 z3 z4;generalize hC++[MO.vw 2 h'.length]=hE at v1 z1 z2 v2 z3;have xD:Ext h' hD:=xC.trans (z1.trans z3);have T3:=T.ext (h':=hD) (λa _ o e=>xD _ _ e) (Pk _);obtain⟨f,a1,a2,a3⟩:=T3;obtain⟨o2,hp,t2⟩:=a1.put (by rw[Q9];omega) d.nm (.ref ll);simp[dP2,dP0,ea,c,R.dict,v1,v2,hp];refine⟨fO (x1.trans xD) (Pk _),?_⟩;rw[htk];refine⟨_,t2.more (by simp),λe he hs=>?_,λp hp=>?_⟩
   ·rcases PK.mp he with he|he
    ·obtain⟨l,l1,l2,l3,l4⟩:=a2 e he hs;have ne:¬ e.nm=d.nm:=λz=>bf (Pw.mpr ⟨e,he,z⟩);refine⟨l,?_,l2,l3,?_⟩
     ·unfold upN;rw[if_neg ne];exact l1
     ·rw[PQ (λz=>l3 z.symm)];exact l4
    ·obtain rfl:=Pz.mp he;refine⟨ll,if_pos rfl,by omega,by omega,?_⟩;rw[PQ (by omega)];exact z4
   ·unfold upN;rw[if_neg λz=>ek (hp d (Pp _ (by simp)) z.symm)];exact a3 p λe he=>hp e (Qe _ he)
 ·rintro δ h' ⟨x1,T,x2,x3,x4,rfl⟩;refine now ?_;simp;refine k h' x1 ?_;have:ds.take (ds.map dP).length=ds:=by rw[Pl,QK]
  rw[this]at T;exact T
set_option tactic.hygienic true in
theorem A8(w:Str)(n:Int):∀(A:List (Str×HD))(R:List Nm)(x:Nm),x∈A.foldl (aW w n) R->x∈R\/n<x.2
 |[],R,x,h=>.inl h
 |o::A,R,x,h=>by
  rw[Rx]at h;rcases A8 w n A _ x h with h|h
  ·unfold aW at h;split at h
   ·exact .inl h
   ·rename_i c;split at h
    ·cases h
    ·split at h
     ·rcases PK.mp h with h|h
      ·exact .inl h
      ·rw[Pz.mp h];exact .inr (by have:¬ o.2.1<=n:=λz=>c (.inr z);show n<o.2.1;omega)
     ·exact .inl h
  ·exact .inr h
variable{g:Nm->Option PV}
theorem Tb.to(t:Tb h n c f)(e:∀p,f p=g p):Tb h n c g:=by
 have:f=g:=funext e;rw[<-this];exact t
def aX(G:List Dd):LS:=(G.map tri).foldl bU LS0
theorem vR(G:List Dd)(d:Dd):aX (G++[d])=bU (aX G) (tri d):=by
 unfold aX;rw[PZ,List.foldl_append];rfl
def bkF(s:LS)(d:Dd)(R:List Nm):Nm->Option PV:=λp=>if p=d.nm then(R.find? λx=>(s.tk x).isNone).map pv else(s.tk p).map pv
theorem HC{G:List Dd}{d:Dd}(h:d.nm∉G.map (·.nm)):(aX G).tk d.nm=none:=by
 have key:∀(A:List (Str×HD))(s:LS),(∀o∈A,(o.1,o.2.1)≠d.nm)->(A.foldl bU s).tk d.nm=s.tk d.nm:=by
  intro A
  induction A with
  |nil=>intro s _;rfl
  |cons o A ih=>
   intro s hA;rw[Rx,ih _ λx hx=>hA x (Pj _ hx)];unfold bU;split
   ·rfl
   ·exact if_neg λz=>hA o Pm z.symm
 refine key _ _ λo ho=>?_;obtain⟨x,hx,rfl⟩:=Pw.mp ho;exact λz=>h (Pw.mpr ⟨x,hx,z⟩)
variable{P:List Dd}
theorem Ki{G:List Dd}{d:Dd}(hd:Down ((G++d::P).map tri))(hk:d.kd≠.settle)(p:Nm):bkF (aX G) d (((G++d::P).map tri).foldl (aW d.nm.1 d.nm.2) []) p=((aX (G++[d])).tk p).map pv:=by
 rw[vR];rw[PZ,Pv]at hd;have e:=Fk hd;rw[PZ,Pv];have e:((G.map tri++tri d::P.map tri).foldl (aW d.nm.1 d.nm.2) [])=(((aX G).bs d.nm.1).filter λb=>reach b d.nm.2).map λb=>(d.nm.1,b.1):=e;rw[e];have el:(bU (aX G) (tri d)).tk p=if p=d.nm then(gW (aX G) (tri d)).map (λb=>(d.nm.1,b.1)) else(aX G).tk p:=by
  unfold bU;rw[if_neg (show ¬ (tri d).2.2=.settle from hk)]
  rfl
 rw[el];unfold bkF
 by_cases c:p=d.nm
 ·rw[if_pos c,if_pos c,List.find?_map];rfl
 ·rw[if_neg c,if_neg c]
theorem Do{G:List Dd}{d:Dd}(hk:d.kd=.settle)(p:Nm):(aX (G++[d])).tk p=(aX G).tk p:=by
 rw[vR];unfold bU;rw[if_pos (show(tri d).2.2=.settle from hk)]
variable{b l:Nat}{h0:PH}{s:LS}
theorem A9{d:Dd}{R:List Nm}(hR:∀x∈R,x≠d.nm)(hl:R.length<=63)(hs:s.tk d.nm=none){t:Nat}(hc:c+R.length<=1000){m:Me}(em:m [some (.ref n),some (.ref t),some (.ref b),some (dP d),x4] h0=.ok (.ref l) h)(gl:h[l]?=some (.lst (R.map pv)))(nb:l≠b)(T:Tb h b c (bkF s d []))(E:FE)(k:∀h' x4,h'.length=h.length->(∀a,a≠b->h'[a]?=h[a]?)->Tb h' b (c+1) (bkF s d R)->E.nx [some (.ref n),some (.ref t),some (.ref b),some (dP d),x4] h'):
  (cE (aU m) (gN 4) kE [some (.ref n),some (.ref t),some (.ref b),some (dP d),x4] h0).W E:=by
 refine fF (n:=l) (xs:=R.map pv) (h1:=h) (λq δ h'=>h'.length=h.length/\(∀a,a≠b->h'[a]?=h[a]?)/\(Tb h' b (if(R.take q).find? (λx=>(s.tk x).isNone)=none then c else c+1) (bkF s d (R.take q)))/\∃x4,δ=[some (.ref n),some (.ref t),some (.ref b),some (dP d),x4]) em gl ⟨rfl,λ_ _=>rfl,T,_,rfl⟩ (λq δ h' _ i=>by rw[i.2.1 l nb];exact gl) ?_ ?_
 ·rintro q x δ h' hx ⟨hlen,fr,t',x4,rfl⟩;rw[Pu]at hx;obtain⟨y,hy,rfl⟩:=PB.mp hx;have my:y∈R:=PD hy;have ny:=hR y my;refine⟨_,rfl,?_⟩;have htk:R.take (q+1)=R.take q++[y]:=by rw[Qh,hy];rfl
  have f1:bkF s d (R.take q) y=(s.tk y).map pv:=if_neg ny;have f2:bkF s d (R.take q) d.nm=((R.take q).find? λx=>(s.tk x).isNone).map pv:=if_pos rfl;have v1:=t'.hasNo y;have v2:=t'.hasNo d.nm;rw[f1]at v1;rw[f2]at v2;unfold kE;rw[cG];cases ey:s.tk y with
  |some z=>
   rw[ey]at v1;have e2:(R.take (q+1)).find? (λx=>(s.tk x).isNone)=(R.take q).find? (λx=>(s.tk x).isNone):=by
    rw[htk,List.find?_append];simp[ey]
   have e3:bkF s d (R.take (q+1))=bkF s d (R.take q):=by
    funext p
    unfold bkF;rw[e2]
   simp[v1];refine⟨hlen,fr,?_⟩;rw[e2,e3];exact t'
  |none=>
   rw[ey]at v1;cases ef:(R.take q).find? (λx=>(s.tk x).isNone) with
   |some z=>
    rw[ef]at v2;have e2:(R.take (q+1)).find? (λx=>(s.tk x).isNone)=(R.take q).find? (λx=>(s.tk x).isNone):=by
     rw[htk,List.find?_append,ef];rfl
    have e3:bkF s d (R.take (q+1))=bkF s d (R.take q):=by
     funext p
     unfold bkF;rw[e2]
    simp[v1,dP0,v2];refine⟨hlen,fr,?_⟩;rw[e2,e3];exact t'
   |none=>
    rw[ef]at v2;have e2:(R.take (q+1)).find? (λx=>(s.tk x).isNone)=some y:=by
     rw[htk,List.find?_append,ef];simp[ey]
    rw[if_pos ef]at t';obtain⟨o,hp,t2⟩:=t'.put (by omega) d.nm (pv y);simp[v1,dP0,v2,hp];refine⟨hlen,λa ha=>?_,?_⟩
    ·rw[PQ (λz=>ha z.symm)];exact fr a ha
    ·rw[e2];refine(t2.more (by simp)).to λp=>?_;unfold upN bkF;rw[e2]
     by_cases c:p=d.nm
     ·rw[if_pos c,if_pos c];rfl
     ·rw[if_neg c,if_neg c,if_neg c]
 ·rintro δ h' ⟨hlen,fr,t',x4,rfl⟩;have:R.take (R.map pv).length=R:=by rw[Pl,QK]
  rw[this]at t';exact k h' x4 hlen fr (t'.more (by split <;> omega))
theorem xY{ds:List Dd}(nd:(ds.map (·.nm)).Nodup){a b:Dd}(ha:a∈ds)(hb:b∈ds)(e:a.nm=b.nm):a=b:=by
 induction ds with
 |nil=>cases ha
 |cons x ds ih=>
  rw[Pv,Rw]at nd;rcases PC.mp ha with h1|h1
  ·rcases PC.mp hb with h2|h2
   ·rw[h1,h2]
   ·exact(nd.1 (Pw.mpr ⟨b,h2,by rw[<-e,h1]⟩)).elim
  ·rcases PC.mp hb with h2|h2
   ·exact(nd.1 (Pw.mpr ⟨a,h1,by rw[e,h2]⟩)).elim
   ·exact ih nd.2 h1 h2
theorem Fs{ds:List Dd}(hw:∀d∈ds,Wf d)(hl:ds.length<=40)(nd:(ds.map (·.nm)).Nodup)(dn:Down (ds.reverse.map tri))(g:h[n]?=some (.lst (ds.map dP)))(Q:PV->PH->Prop)(k:∀l c h',Ext h h'->c<=100->Tb h' l c (λp=>((aX ds.reverse).tk p).map pv)->Q (.ref l) h'):(xQ [.ref n] h).W Q:=by
 refine cA ?_;unfold xP;rw[aD];simp;refine Fq hw hl nd g _ λh1 x1 T=>?_;refine now ?_;rw[aD];simp;refine now ?_;rw[aD];have qp:(ds.reverse.map (·.nm)).Nodup:=by rw[SJ];exact nd.perm (RT _).symm
 have za:n<h.length:=(Pg.mp g).1;have y9:h.length<h1.length:=by obtain⟨f,a,_⟩:=id T;exact a.lt
 have xA:Ext h1 (h1++[MO.dK []]):=Ext.app _ _;have gA:(h1++[MO.dK []])[h1.length]?=some (.dK []):=aF;have T0:=T.ext (h':=h1++[MO.dK []]) (λa _ o e=>xA _ _ e) (Pk _);generalize h1++[MO.dK []]=hA at xA gA T0;refine Fm (n:=n) (xs:=ds.map dP) (h1:=hA) (λq δ h'=>(∀a,a≠h1.length->∀o,hA[a]?=some o->h'[a]?=some o)/\Tb h' h1.length q (λp=>((aX (ds.reverse.take q)).tk p).map pv)/\∃x3 x4,δ=[some (.ref n),some (.ref h.length),some (.ref h1.length),x3,x4]) (by simp) (xA _ _ (x1 _ _ g)) ⟨λ_ _ _ e=>e,Tb.nil gA,_,_,rfl⟩ (λq δ h' _ i=>i.1 n (by omega) _ (xA _ _ (x1 _ _ g))) ?_ ?_
 ·rintro q x δ h' hx ⟨fr,t,x3,x4,rfl⟩;obtain⟨d,hd,rfl⟩:=Fp hx;have md:d∈ds:=List.mem_reverse.mp (PD hd);have hq:q<ds.reverse.length:=(Pg.mp hd).1;have iq:q<ds.length:=by rw[QJ]at hq;exact hq
  have htk:ds.reverse.take (q+1)=ds.reverse.take q++[d]:=by rw[Qh,hd];rfl
  have oz:ds.reverse.take q++d::ds.reverse.drop (q+1)=ds.reverse:=by rw[<-drop_cons hd,Q2]
  have bf:=jT qp hd;obtain⟨f,a1,a2,a3⟩:=id T0;have rg:Tb h' h.length ds.length f:=a1.keep λo e=>fr _ (by omega) _ e;refine⟨_,rfl,?_⟩;unfold pG;have y1:Ext h' (h'++[MO.lst []]):=Ext.app _ _;have y2:(h'++[MO.lst []])[h'.length]?=some (.lst ([].map pv)):=aF;have t1:=t.ext y1;have ltb:=t.lt;have vg:=(rg.ext y1).get d.nm (.ref h'.length);have vd:=rg.dict;have xi:=(rg.ext y1).dict;have fin:∀(h2:PH)(x4:Option PV),(∀a,a≠h1.length->∀o,h'[a]?=some o->h2[a]?=some o)->(∃c,c<=q+1/\Tb h2 h1.length c (λp=>((aX (ds.reverse.take (q+1))).tk p).map pv))->
    (∀a,a≠h1.length->∀o,hA[a]?=some o->h2[a]?=some o)/\Tb h2 h1.length (q+1) (λp=>((aX (ds.reverse.take (q+1))).tk p).map pv)/\∃x3 oh,[some (.ref n),some (.ref h.length),some (.ref h1.length),some (dP d),x4]=[some (.ref n),some (.ref h.length),some (.ref h1.length),x3,oh]:=
   λh2 x4 k8 ⟨c,hc,tt⟩=>⟨λa ha o e=>k8 a ha o (fr a ha o e),tt.more hc,_,_,rfl⟩
  have d7:=HC (G:=ds.reverse.take q) (d:=d) bf;have tB:Tb (h'++[MO.lst []]) h1.length q (bkF (aX (ds.reverse.take q)) d []):=t1.to λp=>by
   unfold bkF
   by_cases c:p=d.nm
   ·rw[if_pos c,c,d7];rfl
   ·rw[if_neg c]
  by_cases hk:d.kd=.settle
  ·have fn:f d.nm=none:=a3 d.nm λe he ee=>by rw[xY nd he md ee];exact hk
   rw[fn]at vg;refine A9 (s:=aX (ds.reverse.take q)) (R:=[]) (l:=h'.length) (h:=h'++[MO.lst []]) (c:=q) (λx hx=>(nomatch hx)) (by simp) d7 (by simp;omega) (by simp[dP0,vd,xi,vg]) y2 (by omega) tB _ λh2 x4 gi k8 t2=>?_;refine fin h2 x4 (λa ha o e=>by rw[k8 a ha];exact y1 _ _ e) ⟨q+1,Pk _,t2.to λp=>?_⟩;rw[htk,Do hk];unfold bkF
   by_cases c:p=d.nm
   ·rw[if_pos c,c,d7];rfl
   ·rw[if_neg c]
  ·obtain⟨l,l1,l2,l3,l4⟩:=a2 d md hk;rw[l1]at vg;have l5:l≠h1.length:=λz=>by rw[z,gA]at l4;cases l4
   have len:(eV ds d).length<=40:=by
    have:=pM d.nm.1 d.nm.2 (ds.reverse.map tri) [];rw[Pl,QJ]at this;have e0:([]:List Nm).length=0:=rfl;unfold eV;omega
   refine A9 (s:=aX (ds.reverse.take q)) (R:=eV ds d) (l:=l) (h:=h'++[MO.lst []]) (c:=q) (λx hx z=>?_) (by omega) d7 (by omega) (by simp[dP0,vd,xi,vg]) (y1 _ _ (fr l l5 _ l4)) l5 tB _ λh2 x4 gi k8 t2=>?_
   ·rcases A8 _ _ _ _ _ hx with h|h
    ·cases h
    ·rw[z]at h;exact absurd h (Int.lt_irrefl _)
   ·refine fin h2 x4 (λa ha o e=>by rw[k8 a ha];exact y1 _ _ e) ⟨q+1,Pk _,t2.to λp=>?_⟩;rw[htk,<-Ki (P:=ds.reverse.drop (q+1)) (by rw[oz];exact dn) hk,oz];rfl
 ·rintro δ h' ⟨fr,t,x3,x4,rfl⟩;refine now ?_;simp;have:ds.reverse.take (ds.map dP).length=ds.reverse:=by rw[Pl,<-QJ,QK]
  rw[this]at t;refine k _ _ h' (λa o e=>?_) (by rw[Pl];omega) t;have:a<h.length:=(Pg.mp e).1;exact fr a (by omega) o (xA _ _ (x1 _ _ e))
theorem Aa(p:Nm):∀T:List (Str×HD×HD),aH (T.map tk) (pv p)=(lkR T p).map pv
 |[]=>rfl
 |x::T=>by
  rw[Pv,tK]
  show aH ((pv (x.1,x.2.1.1),pv (x.1,x.2.2.1))::T.map tk) (pv p)=_
  unfold aH
  by_cases e:(x.1,x.2.1.1)=p
  ·rw[if_pos (by rw[e]),if_pos e];rfl
  ·rw[if_neg (λz=>e (jR z)),if_neg e,Aa p T]
theorem C7:∀{L:List Dd},(L.map (·.nm)).Nodup->Ff L->Down (L.map tri)
 |[],_,_=>.nil
 |d::L,nd,hf=>by
  have xg:=P5.mp hf;rw[Pv,Rw]at nd;rw[Pv];refine P5.mpr ⟨λx hx e=>?_,C7 nd.2 xg.2⟩;obtain⟨y,hy,rfl⟩:=Pw.mp hx;exact Hv (xg.1 y hy) e λz=>nd.1 (Pw.mpr ⟨y,hy,z.symm⟩)
variable{os:List Dd}
section
variable{ds:List Dd}(hw:∀d∈ds,Wf d)(dn:Down (ds.reverse.map tri))
include hw dn
theorem C8(hl:os.length<=63)(nd:(os.map (·.nm)).Nodup)(mem:∀d,d∈os↔d∈ds)(g:h[n]?=some (.lst (os.map dP)))(Q:PV->PH->Prop)(k:∀l h' kvs,Ext h h'->aT h' l=some kvs->(∀p,aH kvs (pv p)=((aX ds.reverse).tk p).map pv)->Q (.ref l) h'):(jP [.ref n] h).W Q:=by
 refine Dl os (λd hd=>hw d ((mem d).mp hd)) hl nd n h g Q λL l h' x hp hf ht=>?_;refine k l h' _ x ht λp=>?_;have ph:(L.map (·.nm)).Nodup:=(hp.map _).nodup_iff.mpr nd;have hm:∀x,x∈L.map tri↔x∈ds.reverse.map tri:=λx=>by
  rw[Pw,Pw];constructor
  ·rintro⟨d,hd,e⟩;exact⟨d,List.mem_reverse.mpr ((mem d).mp (hp.mem_iff.mp hd)),e⟩
  ·rintro⟨d,hd,e⟩;exact⟨d,hp.mem_iff.mpr ((mem d).mpr (List.mem_reverse.mp hd)),e⟩
 rw[Aa,HB (C7 ph hf) dn hm,<-core0 dn];rfl
theorem Kj{hs:List Dd}(hl:hs.length<=63)(mem:∀d,d∈hs↔d∈ds)(hu:∀d∈hs,∀e∈hs,d.nm=e.nm->d=e)(g:h[n]?=some (.lst (hs.map dP)))(Q:PV->PH->Prop)(k:∀os l h',Ext h h'->h.length<=l->h'[l]?=some (.lst ((os.filter λd=>((aX ds.reverse).tk d.nm).isNone).map dP))->(os.map (·.nm)).Nodup->(∀d,d∈os↔d∈ds)->gH os->Q (.ref l) h'):(mB [.ref n] h).W Q:=by
 refine cA ?_;unfold lZ;rw[aD];simp;refine jS hs (λd hd=>hw d ((mem d).mp hd)) hl hu n h g _ λos l h1 x1 g1 nd mo rk=>?_;refine now ?_;rw[aD];simp;have vp:os.length<=hs.length:=by
  have h1:(os.map (·.nm)).length<=(hs.map (·.nm)).length:=QP nd λp hp=>by
   obtain⟨d,hd,rfl⟩:=Pw.mp hp;exact Pw.mpr ⟨d,(mo d).mp hd,rfl⟩
  simpa using h1
 have mm:∀d,d∈os↔d∈ds:=λd=>(mo d).trans (mem d);refine C8 hw dn (by omega) nd mm g1 _ λt h2 kvs x2 ht hB=>?_;refine now ?_;have g2:=x2 _ _ g1;have hc:=nK (js:=[none,some 2]) (tg:=gN 0) (tst:=aQ (aB bG (aB vAt (mV 0) (mC (.int 0))) (mV 1))) (elt:=mV 0) (m:=mV 1) (δ:=[some (.ref n),some (.ref l),some (.ref t)]) (h:=h2) (h1:=h2) (n:=l) (ys:=os) (emb:=dP)
  (λd=>if((aX ds.reverse).tk d.nm).isNone=true then some (dP d) else none) (by simp) g2 (by omega) (λd hd=>⟨_,rfl,λh3 hx=>by
   have hn:bG (pv d.nm) (.ref t) h3=.ok (.bl (!(aH kvs (pv d.nm)).isSome)) h3:=vK (eM hx ht) rfl;rw[hB,QY]at hn;cases e:(aX ds.reverse).tk d.nm with
   |some z=>rw[e]at hn;simp[fP,dP0,hn]
   |none=>rw[e]at hn;simp[fP,dP0,hn]⟩)
 rw[nV (λd=>((aX ds.reverse).tk d.nm).isNone) dP]at hc;simp[hc];exact k os _ _ ((x1.trans x2).trans (Ext.app _ _)) (P6 x1.len x2.len) aF nd mm rk
theorem Kk{hs:List Dd}(hl:hs.length<=63)(mem:∀d,d∈hs↔d∈ds)(hu:∀d∈hs,∀e∈hs,d.nm=e.nm->d=e)(g:h[n]?=some (.lst (hs.map dP)))(Q:PV->PH->Prop)(k:∀(M:List (Nm×Nm)) l h',Ext h h'->h.length<=l->h'[l]?=some (.lst (M.map λx=>.tup [pv x.1,pv x.2]))->M.length<=63->(∀x∈M,(aX ds.reverse).tk x.1=some x.2)->(∀d∈ds,∀y,(aX ds.reverse).tk d.nm=some y->(d.nm,y)∈M)->Q (.ref l) h'):(mE [.ref n] h).W Q:=by
 refine cA ?_;unfold mD;rw[aD];simp;refine jS hs (λd hd=>hw d ((mem d).mp hd)) hl hu n h g _ λos l h1 x1 g1 nd mo rk=>?_;refine now ?_;rw[aD];simp;have vp:os.length<=hs.length:=by
  have h1:(os.map (·.nm)).length<=(hs.map (·.nm)).length:=QP nd λp hp=>by
   obtain⟨d,hd,rfl⟩:=Pw.mp hp;exact Pw.mpr ⟨d,(mo d).mp hd,rfl⟩
  simpa using h1
 have mm:∀d,d∈os↔d∈ds:=λd=>(mo d).trans (mem d);refine C8 hw dn (by omega) nd mm g1 _ λt h2 kvs x2 ht hB=>?_;refine now ?_;have g2:=x2 _ _ g1;have hc:=nK (js:=[none,some 2]) (tg:=gN 0) (tst:=aQ (aB iD (aB vAt (mV 0) (mC (.int 0))) (mV 1))) (elt:=bZ (aA (aB vAt (mV 0) (mC (.int 0))) (aA (aB vAt (mV 1) (aB vAt (mV 0) (mC (.int 0)))) aC))) (m:=mV 1) (δ:=[some (.ref n),some (.ref l),some (.ref t)]) (h:=h2) (h1:=h2) (n:=l) (ys:=os) (emb:=dP)
  (λd=>((aX ds.reverse).tk d.nm).map λy=>.tup [pv d.nm,pv y]) (by simp) g2 (by omega) (λd hd=>⟨_,rfl,λh3 hx=>by
   have wg:=eM hx ht;have hn:iD (pv d.nm) (.ref t) h3=.ok (.bl (aH kvs (pv d.nm)).isSome) h3:=EM wg rfl;rw[hB,QY]at hn;have ha:=hB d.nm;cases e:(aX ds.reverse).tk d.nm with
   |some z=>
    rw[e]at hn ha;have hv:vAt (.ref t) (pv d.nm) h3=.ok (pv z) h3:=Iq wg rfl ha;simp[fP,dP0,hn,hv]
   |none=>rw[e]at hn;simp[fP,dP0,hn]⟩)
 simp[hc];have em:os.filterMap (λd=>((aX ds.reverse).tk d.nm).map λy=>PV.tup [pv d.nm,pv y])=(os.filterMap λd=>((aX ds.reverse).tk d.nm).map λy=>(d.nm,y)).map λx=>.tup [pv x.1,pv x.2]:=by
  rw[List.map_filterMap]
  congr 1
  funext d
  cases(aX ds.reverse).tk d.nm <;> rfl
 rw[em];refine k _ _ _ ((x1.trans x2).trans (Ext.app _ _)) (P6 x1.len x2.len) aF (P6 (List.length_filterMap_le _ _) (by omega)) (λx hx=>?_) λd hd y e=>?_
 ·obtain⟨d,_,e⟩:=List.mem_filterMap.mp hx;obtain⟨y,e1,rfl⟩:=PB.mp e;exact e1
 ·exact List.mem_filterMap.mpr ⟨d,(mm d).mpr hd,by rw[e];rfl⟩
end
variable{Q:PV->PH->Prop}{cn:Str}{ps:List PV}
theorem xZ{f:Fn}(e:ms δ h=.ok ps h1)(l:ps.length=n)(w:(f (.ref h1.length::ps) (h1++[.ins cn []])).W λv h2=>v=.non/\Q (.ref h1.length) h2):(iT cn n f ms δ h).W Q:=by
 obtain⟨v,h2,e2,rfl,q⟩:=lI w;rw[zX,e,Rs.bind_ok,if_pos l,e2,Rs.bind_ok];dsimp only;rw[oP];exact q
theorem Ft{m:Me}(e:m δ h=.ok (.ref n) h1)(g:h1[n]?=some (.lst []))(k:E.nx δ h1):(cE (aU m) tg body δ h).W E:=
 fF (λ_ δ' h'=>δ'=δ/\h'=h1) e g ⟨rfl,rfl⟩ (λ_ _ _ _ i=>i.2▸g) (λq x _ _ hx=>by simp at hx) λ_ _ i=>i.1▸i.2▸k
theorem Tb.ne_ins{fs:List (Str×PV)}(t:Tb h n c f)(g:h[l]?=some (.ins cn fs)):l≠n:=λz=>by
 subst z;obtain⟨E,a,_⟩:=t;simp[aT,g]at a
theorem Tb.ne_lst(t:Tb h n c f)(g:h[l]?=some (.lst xs)):l≠n:=λz=>by
 subst z;obtain⟨E,a,_⟩:=t;simp[aT,g]at a
theorem HE{p:Nm}:vEq (pv p) (.tup [.str "",.int 0]) h=.ok (.bl (decide (p=root))) h:=by
 rw[wN (MM (n:=39)) rfl]
 congr 2
 rw[decide_eq_decide];exact⟨λe=>jR (q:=root) e,λe=>by rw[e];rfl⟩
def gX(d:Dd):Bool:=match d.act with
 |.str w::_=>decide (w="make")
 |_=>false
def mkP(P:List Dd)(x:Nm):Bool:=P.any λd=>gX d&&decide (d.nm=x)
def MkA(f:Nm->Option PV)(P:List Dd):Prop:=∀x,(mkP P x=false/\f x=none)\/∃z:Str,mkP P x=true/\f x=some (.tup [.str "count",pv root,.str z])
def LvA(h:PH)(b:Nat)(f:Nm->Option PV)(P:List Dd):Prop:=∀x,(mkP P x=false/\f x=none)\/∃(c:Nat)(v:Int),mkP P x=true/\f x=some (.ref c)/\b<=c/\h[c]?=some (.ins "Count" [("total",.int v)])
structure FS(h:PH)(l lt lm lf ll b n:Nat)(P:List Dd):Prop where
 fo:h[l]?=some (.ins "Folding" [("tree",.ref lt),("leaves",.ref ll)])
 ti:h[lt]?=some (.ins "Tree" [("made",.ref lm),("failed",.ref lf)])
 md:∃f,Tb h lm n f/\MkA f P
 lv:∃f,Tb h ll n f/\LvA h b f P
 ne:lm≠ll
 hi:l<b/\lt<b/\lm<b/\ll<b
 bl:b<=h.length
variable{lf ll lm:Nat}
theorem FS.ft{lt:Nat}(f:FS h l lt lm lf ll b n P):dW "tree" (.ref l) h=.ok (.ref lt) h:=iI f.fo rfl
theorem FS.fl{lt:Nat}(f:FS h l lt lm lf ll b n P):dW "leaves" (.ref l) h=.ok (.ref ll) h:=iI f.fo rfl
theorem FS.fm{lt:Nat}(f:FS h l lt lm lf ll b n P):dW "made" (.ref lt) h=.ok (.ref lm) h:=iI f.ti rfl
theorem Dp(e:h[n]?=some (.lst xs)):nD [.ref n] h=.ok (.ref h.length) (h++[.lst xs]):=by
 have:aL h n=some xs:=by unfold aL;rw[e]
 unfold nD;simp[this]
theorem jU{f:Str}{fs:List (Str×PV)}{a:Nat}{r:Ev}(g:h[a]?=some (.ins cn fs))(l:fs.length<1000)(k:∀h',(∀(i:Nat) o,i≠a->h[i]?=some o->h'[i]?=some o)->h'[a]?=some (.ins cn (uC f (.ref h.length) fs))->h'[h.length]?=some (.dK [])->h'.length=h.length+1->E.nx (some (.ref a)::r) h'):(eN f (mV 0) bM (some (.ref a)::r) h).W E:=by
 have ha:=(Pg.mp g).1;simp only[ER,D1,oP,M7,CO];refine⟨_,gO (Ext.app _ _ _ _ g) l,k _ (λi o hi e=>aK (Ext.app _ _ _ _ e) (Ri hi)) (bB (Ext.app _ _ _ _ g)) (aK aF (by omega)) (by simp)⟩
theorem Fu(k:∀h' x y,Ext h h'->h'[h.length]?=some (.ins "Tree" [("made",x),("failed",y)])->Q (.ref h.length) h'):(iT "Tree" 0 eU aC δ h).W Q:=by
 refine xZ (ps:=[]) (h1:=h) rfl rfl ?_;refine cA ?_;unfold eT;have g1:(h++[MO.ins "Tree" []])[h.length]?=some (.ins "Tree" []):=aF;have x1:Ext h (h++[MO.ins "Tree" []]):=Ext.app _ _;generalize h++[MO.ins "Tree" []]=hA at g1 x1;rw[aD];refine jU g1 (by simp) λhB ux gB dB lB=>now ?_;simp;refine⟨_,gO (Ext.app _ _ _ _ gB) (show 1<1000 by omega),?_⟩;exact k _ _ _ (λi o e=>have hi:=(Pg.mp e).1;aK (Ext.app _ _ _ _ (ux _ _ (by omega) (x1 _ _ e))) (by omega)) (bB (Ext.app _ _ _ _ gB))
theorem Fv{la:Nat}{x y:PV}(g:h[l]?=some (.ins "Tree" [("made",x),("failed",y)]))(ga:h[la]?=some (.lst []))(gb:h[lb]?=some (.lst []))(k:∀lm lf h',(∀(i:Nat) o,i≠l->h[i]?=some o->h'[i]?=some o)->h.length<=lm->h'[l]?=some (.ins "Tree" [("made",.ref lm),("failed",.ref lf)])->h'[lm]?=some (.dK [])->Q .non h'):(fV [.ref l,.ref la,.ref lb] h).W Q:=by
 have na:la≠l:=λz=>by subst z;rw[g]at ga;cases ga
 have nb:lb≠l:=λz=>by subst z;rw[g]at gb;cases gb
 have hl:=(Pg.mp g).1;refine cA ?_;unfold jM;rw[aD];refine jU g (by simp) λhA uk g2 ON lA=>?_;have g2:hA[l]?=some (.ins "Tree" [("made",.ref h.length),("failed",y)]):=g2;refine now ?_;rw[aD];refine Ft (n:=la) (h1:=hA) (by simp) (uk _ _ na ga) ?_;refine now ?_;simp[Dp (uk _ _ nb gb)];have x3:Ext hA (hA++[MO.lst []]):=Ext.app _ _;refine⟨_,gO (x3 _ _ g2) (by simp),?_⟩;exact k h.length hA.length _ (λi o hi e=>aK (x3 _ _ (uk i o hi e)) (Ri hi)) (Pk _) (bB (x3 _ _ g2)) (aK (x3 _ _ ON) (by omega))
theorem Fw(x0:Ext h0 h){lr lx:Nat}(g:h[h0.length]?=some (.ins "Folding" []))(gr:h[lr]?=some (.lst []))(gx:h[lx]?=some (.lst []))(k:∀lt lm lf ll h',Ext h0 h'->h0.length<=lm->h0.length<=ll->FS h' h0.length lt lm lf ll h'.length 0 []->Q .non h'):(cT [.ref h0.length,.tup [.ref lr,.ref lx]] h).W Q:=by
 have nr:lr≠h0.length:=λz=>by subst z;rw[g]at gr;cases gr
 have nx:lx≠h0.length:=λz=>by subst z;rw[g]at gx;cases gx
 have hl:=(Pg.mp g).1;refine cA ?_;unfold cS;rw[aD];simp;refine now ?_;rw[aD,ER];refine Fu λh1 x y x1 t1=>?_;simp;refine⟨_,gO (x1 _ _ g) (by simp),?_⟩;have xA:Ext h0 (h1.set h0.length (MO.ins "Folding" (uC "tree" (.ref h.length) []))):=(x0.trans x1).setN (Pk _);have fr:∀(i:Nat) o,i≠h0.length->h1[i]?=some o->(h1.set h0.length (MO.ins "Folding" (uC "tree" (.ref h.length) [])))[i]?=some o:=λi o hi e=>aK e (Ri hi);have f2:(h1.set h0.length (MO.ins "Folding" (uC "tree" (.ref h.length) [])))[h0.length]?=some (.ins "Folding" [("tree",.ref h.length)]):=bB (x1 _ _ g);have t2:=fr _ _ (by omega) t1;have r2:=fr _ _ nr (x1 _ _ gr);have y2:=fr _ _ nx (x1 _ _ gx);have l1:=x1.len;generalize h1.set h0.length (MO.ins "Folding" (uC "tree" (.ref h.length) []))=h2 at xA f2 t2 r2 y2;clear fr;have l3:=(Pg.mp t2).1;refine now ?_;rw[aD];have hc:=nK (m:=mV 2) (js:=[none]) (tg:=gN 0) (tst:=lH) (elt:=mSl (mV 0) nA (mP (mC (.int 4)))) (δ:=[some (.ref h0.length),some (.tup [.ref lr,.ref lx]),some (.ref lr),some (.ref lx),none,none,none,none,none]) (h:=h2) (h1:=h2) (n:=lr) (ys:=([]:List PV)) (emb:=id) (λt=>none) (by simp) r2 (by simp) (λt ht=>nomatch ht);have x3:Ext h2 (h2++[MO.lst []]):=Ext.app _ _;have r3:(h2++[MO.lst []])[h2.length]?=some (.lst []):=aF;have hc:cF [none] (aU (mV 2)) (gN 0) lH (mSl (mV 0) nA (mP (mC (.int 4)))) [some (.ref h0.length),some (.tup [.ref lr,.ref lx]),some (.ref lr),some (.ref lx),none,none,none,none,none] h2=.ok (.ref h2.length) (h2++[MO.lst []]):=hc;generalize h2.length=l4 at hc r3 l3;generalize h2++[MO.lst []]=h3 at hc r3 x3;have l5:=(Pg.mp r3).1;have mf:=cH (mm:="fill") (n:=2) (tb:=xR) (ms:=aA (cF [none] (aU (mV 2)) (gN 0) lH (mSl (mV 0) nA (mP (mC (.int 4))))) (aA (mV 3) aC)) (δ:=[some (.ref h0.length),some (.tup [.ref lr,.ref lx]),some (.ref lr),some (.ref lx),none,none,none,none,none]) (h:=h2) (h1:=h2) (mo:=mUn (dW "tree") (mV 0)) (k:=h.length) (f:=fV) (by have:dW "tree" (.ref h0.length) h2=.ok (.ref h.length) h2:=iI f2 rfl;simp[this]) t2 (by simp[xR]) rfl;rw[M5,mf];simp[hc];refine Fv (x3 _ _ t2) r3 (x3 _ _ y2) λlm lf h4 k4 lm4 t4 m4=>?_;have yd:=k4 _ _ (by omega) (x3 _ _ f2);have x4:Ext h0 h4:=λi o e=>k4 i o (by have:=(Pg.mp e).1;omega) ((xA.trans x3) _ _ e);have r4:=k4 _ _ (by intro z;subst z;rw[t2]at r2;cases r2) (x3 _ _ r2);have b4:=(Pg.mp m4).1;have d4:=(Pg.mp t4).1;have x34:=x3.len;refine now ?_;rw[aD];refine jU yd (by simp) λh6 ix f6 g6 l6=>?_;have f6:h6[h0.length]?=some (.ins "Folding" [("tree",.ref h.length),("leaves",.ref h4.length)]):=f6;refine now ?_;refine Ft (n:=lr) (h1:=h6) (by simp) (ix _ _ nr r4) ?_;exact k h.length lm lf h4.length _ (λi o e=>ix i o (by have:=(Pg.mp e).1;omega) (x4 _ _ e)) (by omega) (by omega) ⟨f6,ix _ _ (by omega) t4,⟨_,Tb.nil (ix _ _ (by omega) m4),λx=>.inl ⟨rfl,rfl⟩⟩,⟨_,Tb.nil g6,λx=>.inl ⟨rfl,rfl⟩⟩,by omega,⟨by omega,by omega,by omega,by omega⟩,Pk _⟩
variable{b':Nat}
theorem FS.base{lt:Nat}(f:FS h l lt lm lf ll b 0 [])(x:Ext h h')(hb:b<=b')(hl:b'<=h'.length):FS h' l lt lm lf ll b' 0 []:=by
 obtain⟨p1,p2,p3,p4⟩:=f.hi;exact⟨x _ _ f.fo,x _ _ f.ti,let ⟨a,b,c⟩:=f.md;⟨a,b.ext x,c⟩,let ⟨a,b,c⟩:=f.lv;⟨a,b.ext x,λy=>(c y).imp id λ⟨_,_,z,_⟩=>nomatch z⟩,f.ne,⟨by omega,by omega,by omega,by omega⟩,hl⟩
theorem Fx(h:PH):qX [] h=.ok (.tup [.ref h.length,.ref (h.length+1)]) (h++[.lst []]++[.lst []]):=by
 have w:(qX [] h).W λq h'=>q=.tup [.ref h.length,.ref (h.length+1)]/\h'=h++[.lst []]++[.lst []]:=by
  refine cA ?_;unfold xS;simp
 obtain⟨q,h',e,rfl,rfl⟩:=lI w;exact e
structure Fz(b lm ll:Nat)(h h':PH):Prop where
 lo:∀(i:Nat) o,i<b->i≠lm->i≠ll->h[i]?=some o->h'[i]?=some o
 ls:∀(i:Nat) xs,h[i]?=some (.lst xs)->h'[i]?=some (.lst xs)
theorem yA(P:List Dd)(d:Dd)(x:Nm):mkP (P++[d]) x=(mkP P x || (gX d&&decide (d.nm=x))):=by
 unfold mkP;rw[List.any_append];simp
theorem Ab{d:Dd}(e:gX d=false)(x:Nm):mkP (P++[d]) x=mkP P x:=by rw[yA,e];simp
def kQ(P:List Dd)(p:Nm):PV:=if p=root then .str "map" else if mkP P p=true then .str "count" else .non
theorem yB{lt:Nat}(f:FS h l lt lm lf ll b n P)(p:Nm):bN [.ref lt,pv p] h=.ok (kQ P p) h:=by
 obtain⟨g,t,ma⟩:=f.md;have w:(bN [.ref lt,pv p] h).W λq h'=>q=kQ P p/\h'=h:=by
  refine cA ?_;unfold fJ kQ;rw[aD];simp[HE]
  by_cases e:p=root
  ·simp[e]
  ·simp[e];refine now ?_;have hh:=t.has p;rcases ma p with⟨e1,e2⟩|⟨z,e1,e2⟩
   ·rw[e2]at hh;simp[f.fm,hh,e1]
   ·rw[e2]at hh;simp[f.fm,hh,t.at' e2,e1]
 obtain⟨q,h',e,rfl,rfl⟩:=lI w;exact e
theorem Fy{lt:Nat}(f:FS h l lt lm lf ll b n P)(z:Str):dS [.ref lt,pv root,.str z] h=.ok (.bl true) h:=by
 have w:(dS [.ref lt,pv root,.str z] h).W λq h'=>q=.bl true/\h'=h:=by
  refine cA ?_;unfold iK;have m1:=cH (mm:="kind_of") (n:=1) (tb:=dX) (ms:=aA (mV 1) aC) (δ:=[some (.ref lt),some (pv root),some (.str z)]) (h:=h) (h1:=h) (mo:=mV 0) (k:=lt) (f:=bN) (by simp) f.ti (by simp[dX]) rfl;have k1:kQ P root=.str "map" := by unfold kQ;rw[if_pos rfl]
  have k2:=yB f root;rw[k1]at k2;simp[m1,k2,known,nH]
 obtain⟨q,h',e,rfl,rfl⟩:=lI w;exact e
theorem tbT:iN "Tree" = some dH:=by
 have n1:¬ (PM "Tree")=PM "Count" := by decide +kernel
 simp[iN,n1]
theorem FA{lt:Nat}(f:FS h l lt lm lf ll b n P)(hn:n<=200){d:Dd}(ea:d.act=[.str "make",.str "count",pv root,.str z])(t:Tb h lm n g)(k:∀o,Tb (h.set lm o) lm (n+1) (upN g d.nm (.tup [(.str "count"),pv root,.str z]))->Q (.str "done") (h.set lm o)):(dH [.ref lt,dP d] h).W Q:=by
 have ed:dP d=.tup [pv d.nm,sv d.seen,.tup [.str "make",(.str "count"),pv root,.str z]]:=by unfold dP;rw[ea]
 refine cA ?_;unfold jN;rw[aD,ed];simp;refine now ?_;rw[aD,cG];have m1:=cH (mm:="hear_make") (n:=2) (tb:=iM) (ms:=aA (mV 2) (aA (mV 4) aC)) (δ:=[some (.ref lt),some (.tup [pv d.nm,sv d.seen,.tup [.str "make",(.str "count"),pv root,.str z]]),some (pv d.nm),some (sv d.seen),some (.tup [.str "make",(.str "count"),pv root,.str z])]) (h:=h) (h1:=h) (mo:=mV 0) (k:=lt) (f:=dZ) (by simp) f.ti (by simp[iM]) rfl;simp[m1];refine cA ?_;unfold dY;rw[aD];simp;refine now ?_;rw[aD,cG];have m2:=cH (mm:="takes") (n:=2) (tb:=sW) (ms:=aA (mV 5) (aA (mV 6) aC)) (δ:=[some (.ref lt),some (pv d.nm),some (.tup [.str "make",(.str "count"),pv root,.str z]),some (.str "make"),some (.str "count"),some (pv root),some (.str z)]) (h:=h) (h1:=h) (mo:=mV 0) (k:=lt) (f:=dS) (by simp) f.ti (by simp[sW]) rfl;simp[m2,Fy f];refine now ?_;rw[aD];obtain⟨o,hp,t2⟩:=t.put (by omega) d.nm (.tup [(.str "count"),pv root,.str z]);have st:iL [.str z,pv d.nm] h=.ok (.str z) h:=by
  have w:(iL [.str z,pv d.nm] h).W λq h'=>q=.str z/\h'=h:=by
   refine cA ?_;unfold lR;simp[known,nH]
  obtain⟨q,h',e,rfl,rfl⟩:=lI w;exact e
 simp[st,f.fm];refine⟨_,hp,now ?_⟩;simp;exact k o t2
theorem HF(k:∀h',Ext h h'->h'[h.length]?=some (.ins "Count" [("total",.int 0)])->Q (.ref h.length) h'):(pI [.str "count"] h).W Q:=by
 refine cA ?_;unfold pH;rw[aD,cG];simp[-zX];refine xZ (ps:=[]) (h1:=h) rfl rfl ?_;refine cA ?_;unfold eC;have g1:(h++[MO.ins "Count" []])[h.length]?=some (.ins "Count" []):=aF;have x1:Ext h (h++[MO.ins "Count" []]):=Ext.app _ _;generalize h++[MO.ins "Count" []]=hA at g1 x1;simp;refine⟨_,gO g1 (by simp),?_⟩;exact k _ (λi o e=>have hi:=(Pg.mp e).1;aK (x1 _ _ e) (by omega)) (bB g1)
theorem FB{lt:Nat}(f:FS h l lt lm lf ll b n P)(hn:n<=200){d:Dd}(ea:d.act=[.str "make",.str "count",pv root,.str z])(k:∀h',Fz b lm ll h h'->FS h' l lt lm lf ll b (n+1) (P++[d])->Q (.str "done") h'):(bL [.ref l,dP d] h).W Q:=by
 obtain⟨g,t,ma⟩:=f.md;obtain⟨g2,t2,la⟩:=f.lv;have d1:=t.ne_ins f.fo;have d2:=t2.ne_ins f.fo;have d3:=t.ne_ins f.ti;have d4:=t2.ne_ins f.ti;obtain⟨p1,p2,p3,p4⟩:=f.hi;have bl:=f.bl;refine cA ?_;unfold cO;rw[aD];have mh:=cH (mm:="hear") (n:=1) (tb:=iN) (ms:=aA (mV 1) aC) (δ:=[some (.ref l),some (dP d),none,none]) (h:=h) (h1:=h) (mo:=mUn (dW "tree") (mV 0)) (k:=lt) (f:=dH) (by simp[f.ft]) f.ti tbT rfl;simp[mh];refine FA f hn ea t λo t1=>?_;have tp:(h.set lm o)[l]?=_:=aK f.fo (Ri d1);have xy:(h.set lm o)[lt]?=_:=aK f.ti (Ri d3);have xk:Tb (h.set lm o) ll n g2:=t2.keep λob e=>aK e f.ne;have wz:∀(i:Nat) xs,h[i]?=some (.lst xs)->(h.set lm o)[i]?=some (.lst xs):=λi xs e=>aK e (Ri (t.ne_lst e));have vj:∀(i:Nat) ob,i≠lm->h[i]?=some ob->(h.set lm o)[i]?=some ob:=λi ob hi e=>aK e (Ri hi);have Ow:(h.set lm o).length=h.length:=QG;generalize h.set lm o=h1 at t1 tp xy xk wz vj Ow;refine now ?_;rw[aD];simp[dP2];refine now ?_;rw[aD,cG];have i0:atI d.act 0=some (.str "make"):=by rw[ea];exact bQ (i:=0) rfl
 have i1:atI d.act 1=some (.str "count"):=by rw[ea];exact bQ (i:=1) rfl
 have mA:=cH (mm:="add_leaf") (n:=2) (tb:=jO) (ms:=aA (aB vAt (mV 1) (mC (.int 0))) (aA (aB vAt (mV 3) (mC (.int 1))) aC)) (δ:=[some (.ref l),some (dP d),some (.str "done"),some (.tup d.act)]) (h:=h1) (h1:=h1) (mo:=mV 0) (k:=l) (f:=cX) (by simp) tp (by simp[jO]) rfl;have em:gX d=true:=by unfold gX;rw[ea];rfl
 generalize d.act=A at i0 i1 mA;simp[i0,mA,dP0,i1];refine cA ?_;unfold cW;rw[aD];simp;refine HF λh2 x2 lc=>?_;have di:=x2.len;generalize qy:h1.length=c at lc;refine now ?_;have xq:dW "leaves" (.ref l) h2=.ok (.ref ll) h2:=iI (x2 _ _ tp) rfl;have nn:kZ (.ref c) .non h2=.ok (.bl true) h2:=rfl;obtain⟨o3,yw,t3⟩:=(xk.ext x2).put (by omega) d.nm (.ref c);simp[nn,xq];refine⟨_,yw,now ?_⟩;simp;have kp:∀(i:Nat) ob,i≠lm->i≠ll->h[i]?=some ob->(h2.set ll o3)[i]?=some ob:=λi ob a b e=>aK (x2 _ _ (vj i ob a e)) (Ri b);have qf:∀(i:Nat) ob,i≠ll->h1[i]?=some ob->(h2.set ll o3)[i]?=some ob:=λi ob b e=>aK (x2 _ _ e) (Ri b);refine k _ ⟨λi ob _ a b e=>kp i ob a b e,λi xs e=>aK (x2 _ _ (wz i xs e)) (Ri (t2.ne_lst e))⟩ ⟨kp _ _ d1 d2 f.fo,kp _ _ d3 d4 f.ti,⟨_,t1.keep λob e=>qf _ _ f.ne e,λx=>?_⟩,⟨_,t3,λx=>?_⟩,f.ne,f.hi,by rw[QG];have:=x2.len;omega⟩
 ·rw[yA,em]
  show _\/∃z',_/\(if x=d.nm then _ else g x)=_
  by_cases q:x=d.nm
  ·exact .inr ⟨z,by simp[q],by rw[if_pos q]⟩
  ·have q':¬ d.nm=x:=λe=>q e.symm
   show(_/\(if x=d.nm then _ else g x)=none)\/_
   rw[if_neg q];simpa[q'] using ma x
 ·rw[yA,em]
  by_cases q:x=d.nm
  ·refine .inr ⟨c,0,by simp[q],by show(if x=d.nm then _ else g2 x)=_;rw[if_pos q],by omega,aK lc (by omega)⟩
  ·have q':¬ d.nm=x:=λe=>q e.symm;have eg:upN g2 d.nm (.ref c) x=g2 x:=if_neg q;rw[eg];rcases la x with⟨e1,e2⟩|⟨c',v,e1,e2,e3,e4⟩
   ·exact .inl ⟨by simp[e1,q'],e2⟩
   ·exact .inr ⟨c',v,by simp[e1],e2,e3,kp _ _ (by omega) (by omega) e4⟩
inductive AcK(d:Dd):Prop
 |settle (e:d.kd=.settle) (ea:d.act=[.str "settle"])
 |back (f l:Int) (e:d.kd=.back f l) (ea:d.act=[.str "back",.int f,.int l])
 |make (z:Str) (e:d.kd=.other) (ea:d.act=[.str "make",.str "count",pv root,.str z])
 |add (t:Nm) (v:Int) (e:d.kd=.other) (ea:d.act=[.str "add",pv t,.int v])
def nX(d:Dd):Option Nm:=match d.act with
 |[.str w,.tup [.str a,.int b],.int _]=>if w="add" then some (a,b) else none
 |_=>none
def idD(P:List Dd)(d:Dd):Bool:=match nX d with
 |some t=>!mkP P t
 |none=>false
def eX(P:List Dd)(d:Dd):Str:=if idD P d=true then "idle" else "done"
theorem FC(h:PH):iO [.str "add"] h=.ok (.str "count") h:=by
 have w:(iO [.str "add"] h).W λq h'=>q=.str "count" /\ h'=h:=by
  refine cA ?_;unfold lU;simp[vGd,sT,gdV]
 obtain⟨q,h',e,rfl,rfl⟩:=lI w;exact e
theorem inT(h:PH):vIn (.str x) (.tup [.str "make",.str "move",.str "drop"]) h=.ok (.bl (decide (x="make" \/ x="move" \/ x="drop"))) h:=by
 rw[BF rfl rfl];simp
theorem inB(h:PH):oJ (.str x) (.tup [.str "back",.str "settle"]) h=.ok (.bl (!decide (x="back" \/ x="settle"))) h:=by
 rw[AR rfl rfl];simp
theorem FD(P:List Dd)(p:Nm):(kQ P p).pl 40=true:=by
 unfold kQ;split
 ·rfl
 ·split <;> rfl
theorem FF{v:Int}{t:Nm}{d:Dd}(ea:d.act=[.str "add",pv t,.int v])(g:h[c]?=some (.ins "Count" [("total",.int i)]))(k:Q .non (h.set c (.ins "Count" [("total",.int (i+v))]))):(dR [.ref c,dP d] h).W Q:=by
 refine cA ?_;unfold iJ;have ed:dP d=.tup [pv d.nm,sv d.seen,.tup [.str "add",pv t,.int v]]:=by unfold dP;rw[ea]
 rw[aD,ed];simp;refine now ?_;have e1:=nQ g;have e2:=gO (f:="total") (p:=.int (i+v)) g (by simp);have l1:Sf ("total" : Str) [(("total" : Str),PV.int i)]=some (.int i):=rfl;simp[BS,e1,Ha,l1,e2];exact k
theorem FS.quiet{lt:Nat}(f:FS h l lt lm lf ll b n P){d:Dd}(e:gX d=false):FS h l lt lm lf ll b (n+1) (P++[d]):=
 ⟨f.fo,f.ti,let ⟨a,b,c⟩:=f.md;⟨a,b.more (RK _),λx=>by rw[Ab e];exact c x⟩,let ⟨a,b,c⟩:=f.lv;⟨a,b.more (RK _),λx=>by rw[Ab e];exact c x⟩,f.ne,f.hi,f.bl⟩
theorem FG{lt:Nat}(f:FS h l lt lm lf ll b n P)(hn:n<=200){d:Dd}(D:AcK d)(rt:∀e∈P,e.nm≠root)(k:∀h',Fz b lm ll h h'->FS h' l lt lm lf ll b (n+1) (P++[d])->Q (.str (eX P d)) h'):(cJ [.ref l,dP d] h).W Q:=by
 refine cA ?_;unfold fM;rw[aD];simp[dP2];refine now ?_;rw[aD,cG];have same:gX d=false->Q (.str (eX P d)) h:=λe=>k h ⟨λ_ _ _ _ _ e=>e,λ_ _ e=>e⟩ (f.quiet e);have n1:∀w:Str,w="settle" \/ w="back" \/ w="add" -> ¬ (w="make" \/ w="move" \/ w="drop"):=by
  rintro w (rfl|rfl|rfl) <;> decide +kernel
 cases D with
 |settle e ea=>
  have em:gX d=false:=by unfold gX;rw[ea];exact decide_eq_false (by decide +kernel)
  have ef:eX P d="done" := by unfold eX idD nX;rw[ea];rfl
  have s1:=same em;rw[ef]at s1;have i0:atI d.act 0=some (.str "settle"):=by rw[ea];exact bQ (i:=0) rfl
  generalize d.act=A at i0;simp[-gM,-bH,i0];rw[gM,inT];simp[n1 "settle" (.inl rfl)];refine now ?_;rw[aD,cG];simp[-bH,i0];rw[bH,inB];simp;refine now ?_;simp;exact s1
 |back f1 l1 e ea=>
  have em:gX d=false:=by unfold gX;rw[ea];exact decide_eq_false (by decide +kernel)
  have ef:eX P d="done" := by unfold eX idD nX;rw[ea];rfl
  have s1:=same em;rw[ef]at s1;have i0:atI d.act 0=some (.str "back"):=by rw[ea];exact bQ (i:=0) rfl
  generalize d.act=A at i0;simp[-gM,-bH,i0];rw[gM,inT];simp[n1 "back" (.inr (.inl rfl))];refine now ?_;rw[aD,cG];simp[-bH,i0];rw[bH,inB];simp;refine now ?_;simp;exact s1
 |make z e ea=>
  have mt:=cH (mm:="hear_tree") (n:=1) (tb:=iP) (ms:=aA (mV 1) aC) (δ:=[some (.ref l),some (dP d),some (.tup d.act)]) (h:=h) (h1:=h) (mo:=mV 0) (k:=l) (f:=bL) (by simp) f.fo (by simp[iP]) rfl;have i0:atI d.act 0=some (.str "make"):=by rw[ea];exact bQ (i:=0) rfl
  have e1:eX P d="done" := by unfold eX idD nX;rw[ea];rfl
  rw[e1]at k;generalize d.act=A at mt i0;simp[i0,inT,mt];exact FB f hn ea k
 |add th v e ea=>
  have em:gX d=false:=by unfold gX;rw[ea];exact decide_eq_false (by decide +kernel)
  have ia:nX d=some th:=by unfold nX;rw[ea];exact if_pos rfl
  have n2:¬ ((PM "add")="back" \/ (PM "add")="settle"):=by decide +kernel
  have i0:atI d.act 0=some (.str "add"):=by rw[ea];exact bQ (i:=0) rfl
  have i1:atI d.act 1=some (pv th):=by rw[ea];exact bQ (i:=1) rfl
  have kr:mkP P root=false:=by
   unfold mkP;rw[List.any_eq_false];intro y hy z;rw[PF]at z;exact rt y hy (of_decide_eq_true z.2)
  have t9:=cH (mm:="kind_of") (n:=1) (tb:=dX) (ms:=aA (aB vAt (mV 2) (mC (.int 1))) aC) (δ:=[some (.ref l),some (dP d),some (.tup d.act)]) (h:=h) (h1:=h) (mo:=mUn (dW "tree") (mV 0)) (k:=lt) (f:=bN) (by simp[f.ft]) f.ti (by simp[dX]) rfl;have ne:=Ew (h:=h) (FD P th) (y:=.str "count") rfl;have vf:(kQ P th=.str "count")↔mkP P th=true:=by
   unfold kQ
   by_cases c:th=root
   ·rw[if_pos c,c,kr]
    decide +kernel
   ·rw[if_neg c];cases mkP P th <;> simp
  have ya:=ea;simp[-gM,-bH,i0];rw[gM,inT];simp[n1 "add" (.inr (.inr rfl))];refine now ?_;rw[aD,cG];have ml:=λ(c:Nat)(i:Int)(g:h[c]?=some (.ins "Count" [("total",.int i)]))(hv:vAt (.ref ll) (pv th) h=.ok (.ref c) h)=>cH (mm:="hear") (n:=1) (tb:=iN) (ms:=aA (mV 1) aC) (δ:=[some (.ref l),some (dP d),some (.tup d.act)]) (h:=h) (h1:=h) (mo:=aB vAt (mUn (dW "leaves") (mV 0)) (aB vAt (mV 2) (mC (.int 1)))) (k:=c) (f:=dR) (by simp[f.fl,i1,hv]) g (by simp[iN]) rfl;generalize d.act=A at i0 i1 t9 ml;simp[-bH,i0];rw[bH,inB];simp[n2];rw[aD,cG];cases ei:mkP P th with
  |false=>
   have c:¬ kQ P th=.str "count" := λz=>by have:=vf.mp z;rw[ei]at this;cases this
   rw[decide_eq_false c]at ne;have e1:eX P d="idle" := by unfold eX idD;rw[ia];simp[ei]
   have s1:=same em;rw[e1]at s1;simp[t9,i1,i0,yB f,FC,ne];exact s1
  |true=>
   have c:=vf.mpr ei;rw[decide_eq_true c]at ne;have e1:eX P d="done" := by unfold eX idD;rw[ia];simp[ei]
   rw[e1]at k;simp[t9,i1,i0,yB f,FC,ne];refine now ?_;obtain⟨g,t,la⟩:=f.lv;rcases la th with⟨e2,_⟩|⟨c,i,e2,e3,e4,e5⟩
   ·rw[ei]at e2;cases e2
   ·have ml:=ml c i e5 (t.at' e3);simp[ml];refine FF ya e5 ?_;refine now ?_;simp;obtain⟨p1,p2,p3,p4⟩:=f.hi;have fr:∀(j:Nat) o,j≠c->h[j]?=some o->(h.set c (.ins "Count" [("total",.int (i+v))]))[j]?=some o:=λj o hj e=>aK e (Ri hj);refine k _ ⟨λj o hj _ _ e=>fr j o (by omega) e,λj xs e=>fr j _ (λz=>by subst z;rw[e5]at e;cases e) e⟩ (FS.quiet ⟨fr _ _ (by omega) f.fo,fr _ _ (by omega) f.ti,let ⟨a,b,c⟩:=f.md;⟨a,b.keep λo e=>fr _ _ (by omega) e,c⟩,⟨g,t.keep λo e=>fr _ _ (by omega) e,λx=>(la x).imp id λhz=>?_⟩,f.ne,f.hi,by rw[QG];exact f.bl⟩ em);obtain⟨c',v',a1,a2,a3,a4⟩:=hz
    by_cases cc:c'=c
    ·subst cc;exact⟨c',i+v,a1,a2,a3,bB e5⟩
    ·exact⟨c',v',a1,a2,a3,fr _ _ cc a4⟩
structure UA(h:PH)(lu n:Nat):Prop where
 ins:∃fs,h[lu]?=some (.ins "Undoing" fs)/\fs.lookup ("undone" : Str)=some (.ref (lu+1))/\fs.lookup ("placers" : Str)=some (.ref (lu+2))/\fs.lookup ("hear" : Str)=none
 un:Tb h (lu+1) 0 (λ_=>none)
 pl:∃f,Tb h (lu+2) n f
variable{lu:Nat}
theorem UA.keep(u:UA h lu n)(k:∀(i:Nat) o,lu<=i->i<=lu+2->h[i]?=some o->h'[i]?=some o):UA h' lu n:=
 ⟨let ⟨fs,a,r⟩:=u.ins;⟨fs,k _ _ (by omega) (by omega) a,r⟩,u.un.keep λo e=>k _ _ (by omega) (by omega) e,let ⟨f,t⟩:=u.pl;⟨f,t.keep λo e=>k _ _ (by omega) (by omega) e⟩⟩
theorem UA.fu(u:UA h lu n):dW "undone" (.ref lu) h=.ok (.ref (lu+1)) h:=let ⟨_,a,b,_⟩:=u.ins;iI a b
theorem UA.fp(u:UA h lu n):dW "placers" (.ref lu) h=.ok (.ref (lu+2)) h:=let ⟨_,a,_,b,_⟩:=u.ins;iI a b
theorem FH(k:∀h',Ext h h'->h'.length=h.length+6->UA h' h.length 0->Q (.ref h.length) h'):(iT "Undoing" 0 cV aC δ h).W Q:=by
 refine xZ (ps:=[]) (h1:=h) rfl rfl ?_;refine cA ?_;unfold cU;have g1:(h++[MO.ins "Undoing" []])[h.length]?=some (.ins "Undoing" []):=aF;have x1:Ext h (h++[MO.ins "Undoing" []]):=Ext.app _ _;have l1:(h++[MO.ins "Undoing" []]).length=h.length+1:=by simp
 generalize h++[MO.ins "Undoing" []]=hA at g1 x1 l1;rw[aD];refine jU g1 (by simp) λhB ux gB dB lB=>now ?_;rw[aD];refine jU gB (show 1<1000 by omega) λhC pq gC dC lC=>now ?_;rw[aD];refine jU gC (show 2<1000 by omega) λhD si gD dD lD=>now ?_;rw[aD];refine jU gD (show 3<1000 by omega) λhE OB gE dE lE=>now ?_;refine jU gE (show 4<1000 by omega) λhF zf gF dF lF=>⟨rfl,?_⟩;have fr:∀(i:Nat) o,i≠h.length->hD[i]?=some o->hF[i]?=some o:=λi o hi e=>zf _ _ hi (OB _ _ hi e);have u1:=fr _ _ (by omega) (si _ _ (by omega) (pq _ _ (by omega) dB));have u2:=fr _ _ (by omega) (si _ _ (by omega) dC);have u3:=fr _ _ (by omega) dD;rw[l1]at u1 gF;rw[lB,l1]at u2 gF;rw[lC,lB,l1]at u3 gF;refine k hF (λi o e=>have hi:=(Pg.mp e).1;fr _ _ (by omega) (si _ _ (by omega) (pq _ _ (by omega) (ux _ _ (by omega) (x1 _ _ e))))) (by omega) ⟨⟨_,gF,rfl,rfl,rfl⟩,Tb.nil u1,⟨_,Tb.nil u2⟩⟩
theorem inM(hx:¬ (x="move" \/ x="drop"))(h:PH):vIn (.str x) (.tup [.str "move",.str "drop"]) h=.ok (.bl false) h:=by
 rw[BF rfl rfl];simp[hx]
theorem FI:∀w:Str,w="settle" \/ w="back" \/ w="add" -> w≠"make" /\ ¬ (w="move" \/ w="drop")/\w≠"choose" /\ w≠"put" /\ w≠"take" /\ w≠"write" /\ w≠"cut" := by
 rintro w (rfl|rfl|rfl) <;> decide +kernel
theorem FJ(u:UA h lu n)(hn:n<=200){d:Dd}(D:AcK d)(k:∀h',h'.length=h.length->(∀(i:Nat) o,i≠lu+2->h[i]?=some o->h'[i]?=some o)->UA h' lu (n+1)->Q .non h'):(bO [.ref lu,dP d] h).W Q:=by
 refine cA ?_;unfold fK;rw[aD];cases D with
 |make z e ea=>
  have i0:atI d.act 0=some (.str "make"):=by rw[ea];exact bQ (i:=0) rfl
  simp[dP];refine now ?_;obtain⟨f,t⟩:=u.pl;obtain⟨o,hp,t2⟩:=t.put (by omega) d.nm (pv d.nm);generalize d.act=A at i0;simp[i0,u.fp];refine⟨_,hp,k _ (QG ..) (λi ob q e=>aK e (Ri q)) ⟨let ⟨fs,a,r⟩:=u.ins;⟨fs,aK a (by omega),r⟩,u.un.keep λo e=>aK e (by omega),⟨_,t2⟩⟩⟩
 |settle e ea=>
  have i0:atI d.act 0=some (.str "settle"):=by rw[ea];exact bQ (i:=0) rfl
  obtain⟨a1,a2,a3,a4,a5,a6,a7⟩:=FI "settle" (.inl rfl);simp[dP];refine now ?_;generalize d.act=A at i0;simp[i0,a1,inM a2,a3,a4,a5,a6,a7];exact k h rfl (λ_ _ _ e=>e) ⟨u.ins,u.un,let ⟨f,t⟩:=u.pl;⟨f,t.more (RK _)⟩⟩
 |back f1 l1 e ea=>
  have i0:atI d.act 0=some (.str "back"):=by rw[ea];exact bQ (i:=0) rfl
  obtain⟨a1,a2,a3,a4,a5,a6,a7⟩:=FI "back" (.inr (.inl rfl));simp[dP];refine now ?_;generalize d.act=A at i0;simp[i0,a1,inM a2,a3,a4,a5,a6,a7];exact k h rfl (λ_ _ _ e=>e) ⟨u.ins,u.un,let ⟨f,t⟩:=u.pl;⟨f,t.more (RK _)⟩⟩
 |add t v e ea=>
  have i0:atI d.act 0=some (.str "add"):=by rw[ea];exact bQ (i:=0) rfl
  obtain⟨a1,a2,a3,a4,a5,a6,a7⟩:=FI "add" (.inr (.inr rfl));simp[dP];refine now ?_;generalize d.act=A at i0;simp[i0,a1,inM a2,a3,a4,a5,a6,a7];exact k h rfl (λ_ _ _ e=>e) ⟨u.ins,u.un,let ⟨f,t⟩:=u.pl;⟨f,t.more (RK _)⟩⟩
theorem FS.keep{lt:Nat}(f:FS h l lt lm lf ll b n P)(k:∀(i:Nat) o,i=l\/i=lt\/i=lm\/i=ll\/b<=i->h[i]?=some o->h'[i]?=some o)(hl:h.length<=h'.length):FS h' l lt lm lf ll b n P:=
 ⟨k _ _ (.inl rfl) f.fo,k _ _ (.inr (.inl rfl)) f.ti,let ⟨a,t,c⟩:=f.md;⟨a,t.keep λo e=>k _ _ (.inr (.inr (.inl rfl))) e,c⟩,let ⟨a,t,c⟩:=f.lv;⟨a,t.keep λo e=>k _ _ (.inr (.inr (.inr (.inl rfl)))) e,λx=>(c x).imp id λ⟨c',v,p,q,r,s⟩=>⟨c',v,p,q,r,k _ _ (.inr (.inr (.inr (.inr r)))) s⟩⟩,f.ne,f.hi,P6 f.bl hl⟩
def idV:PV:=.tup [.str "idle"]
structure Bd(a l lt lm ll lu lF:Nat):Prop where
 lo:a<=lm/\a<=ll/\a<=lu
 hi:l<lu/\lt<lu/\lm<lu/\ll<lu
 hF:lu+2<lF
structure PL(h:PH)(l lt lm lf ll lu lF:Nat)(os:List Dd)(q:Nat)(h':PH):Prop where
 x:Ext h h'
 fs:FS h' l lt lm lf ll (lF+1) q (os.take q)
 un:UA h' lu q
 fd:∃F,Tb h' lF q F/\(∀i d,i<q->os[i]?=some d->F d.nm=if idD (os.take i) d=true then some idV else none)/\∀x,x∉(os.take q).map (·.nm)->F x=none
theorem tbF:dI "Folding" = some cJ:=by
 have n1:¬ (PM "Folding")=PM "Count" := by decide +kernel
 have n2:¬ (PM "Folding")=PM "Tree" := by decide +kernel
 simp[dI,n1,n2]
theorem tbU:dI "Undoing" = some bO:=by
 have n1:¬ (PM "Undoing")=PM "Count" := by decide +kernel
 have n2:¬ (PM "Undoing")=PM "Tree" := by decide +kernel
 have n3:¬ (PM "Undoing")=PM "Folding" := by decide +kernel
 simp[dI,n1,n2,n3]
variable{x7 x8:Option PV}
theorem HG(nd:(os.map (·.nm)).Nodup)(wf:∀d∈os,AcK d)(rt:∀d∈os,d.nm≠root)(ln:os.length<=50){lt lF:Nat}(B:Bd h.length l lt lm ll lu lF){q:Nat}(p:PL h l lt lm lf ll lu lF os q h'){d:Dd}(hd:os[q]?=some d){x5 x6 x9:Option PV}(k:∀x8 h2,PL h l lt lm lf ll lu lF os (q+1) h2->E.nx [some (.ref n),some (.ref l),some (.ref lu),some (.ref lF),some (dP d),some (pv d.nm),some (sv d.seen),some (.tup d.act),some x8,x9] h2):(bR [some (.ref n),some (.ref l),some (.ref lu),some (.ref lF),some (dP d),x5,x6,x7,x8,x9] h').W E:=by
 obtain⟨x,fs,u,F,tF,eF,oF⟩:=p;obtain⟨⟨b1,b2,b3⟩,⟨c1,c2,c3,c4⟩,hF⟩:=B;have md:d∈os:=PD hd;have hq:q<os.length:=(Pg.mp hd).1;have htk:os.take (q+1)=os.take q++[d]:=by rw[Qh,hd];rfl
 have bf:=jT nd hd;unfold bR;rw[aD];have ed:dP d=.tup [pv d.nm,sv d.seen,.tup d.act]:=rfl;have as:(lG (mV 4) (gTp 3 (gCn (gN 5) (gCn (gN 6) (gCn (gN 7) gNl)))) [some (.ref n),some (.ref l),some (.ref lu),some (.ref lF),some (dP d),x5,x6,x7,x8,x9] h')=.nx [some (.ref n),some (.ref l),some (.ref lu),some (.ref lF),some (dP d),some (pv d.nm),some (sv d.seen),some (.tup d.act),x8,x9] h':=by
  rw[ed];rfl
 rw[as,NZ];refine now ?_;rw[aD];have mh:=cH (mm:="hear") (n:=1) (tb:=dI) (ms:=aA (mV 4) aC) (δ:=[some (.ref n),some (.ref l),some (.ref lu),some (.ref lF),some (dP d),some (pv d.nm),some (sv d.seen),some (.tup d.act),x8,x9]) (h:=h') (h1:=h') (mo:=mV 1) (k:=l) (f:=cJ) (by simp) fs.fo tbF rfl;simp[mh];refine FG fs (by omega) (wf d md) (λe he=>rt e (RN he)) λh2 fz f2=>?_;refine now ?_;have x2:Ext h h2:=λi o e=>have hi:=(Pg.mp e).1;fz.lo i o (by omega) (by omega) (by omega) (x _ _ e);have u2:UA h2 lu q:=u.keep λi o a b e=>fz.lo i o (by omega) (by omega) (by omega) e;have t2:Tb h2 lF q F:=tF.keep λo e=>fz.lo _ o (by omega) (by omega) (by omega) e;rw[<-htk]at f2;have old:∀i d',i<q->os[i]?=some d'->d'.nm≠d.nm:=λi d' hi e z=>bf (Pw.mpr ⟨d',PD (i:=i) (by rw[List.getElem?_take,if_pos hi];exact e),z⟩);have ne1:¬ (PM "idle")=PM "lost" := by decide +kernel
 have ne2:¬ (PM "done")=PM "lost" := by decide +kernel
 have ne3:¬ (PM "done")=PM "idle" := by decide +kernel
 have ins:∀y,y∉(os.take (q+1)).map (·.nm)->y∉(os.take q).map (·.nm)/\y≠d.nm:=λy hy=>⟨λz=>hy (by rw[htk,PZ];exact Qe _ z),λz=>hy (by rw[htk,PZ,z];simp)⟩;have idx:∀i d',i<q+1->os[i]?=some d'->(i<q/\d'.nm≠d.nm)\/(i=q/\d'=d):=λi d' hi e=>by
  by_cases c:i=q
  ·subst c;rw[hd]at e;exact .inr ⟨rfl,(PP e).symm⟩
  ·exact .inl ⟨by omega,old i d' (by omega) e⟩
 rw[cG];cases ei:idD (os.take q) d with
 |true=>
  have ef:eX (os.take q) d="idle" := by unfold eX;rw[ei];rfl
  rw[ef];obtain⟨o,hp,t3⟩:=t2.put (by omega) d.nm idV;have jh:eW (.ref lF) (pv d.nm) (.tup [.str "idle"]) h2=some (h2.set lF o):=hp;simp[ne1,jh];refine k _ _ ⟨fO x2 (by omega),f2.keep (λi ob hi e=>aK e (by omega)) (by rw[QG];exact Pk _),?_,⟨_,t3,λi d' hi e=>?_,λy hy=>?_⟩⟩
  ·have u3:=u2.keep (h':=h2.set lF o) λi ob a b e=>aK e (by omega);exact⟨u3.ins,u3.un,let ⟨f,t⟩:=u3.pl;⟨f,t.more (RK _)⟩⟩
  ·rcases idx i d' hi e with⟨i1,i2⟩|⟨rfl,rfl⟩
   ·show(if d'.nm=d.nm then _ else F d'.nm)=_
    rw[if_neg i2];exact eF i d' i1 e
   ·show(if d'.nm=d'.nm then _ else F d'.nm)=_
    rw[if_pos rfl,ei];rfl
  ·show(if y=d.nm then _ else F y)=_
   rw[if_neg (ins y hy).2];exact oF y (ins y hy).1
 |false=>
  have ef:eX (os.take q) d="done" := by unfold eX;rw[ei];rfl
  rw[ef];obtain⟨fi,i1,i2,i3,i4⟩:=u2.ins;have mu:=cH (mm:="hear") (n:=1) (tb:=dI) (ms:=aA (mV 4) aC) (δ:=[some (.ref n),some (.ref l),some (.ref lu),some (.ref lF),some (dP d),some (pv d.nm),some (sv d.seen),some (.tup d.act),some (.str "done"),x9]) (h:=h2) (h1:=h2) (mo:=mV 2) (k:=lu) (f:=bO) (by simp) i1 tbU i4;simp[ne2,ne3,mu];refine FJ u2 (by omega) (wf d md) λh3 l3 lz u3=>?_;refine k _ _ ⟨λi o e=>have hi:=(Pg.mp e).1;lz i o (by omega) (x2 _ _ e),f2.keep (λi ob hi e=>lz i ob (by omega) e) (by omega),u3,⟨F,(t2.keep λo e=>lz _ o (by omega) e).more (RK _),λi d' hi e=>?_,λy hy=>oF y (ins y hy).1⟩⟩;rcases idx i d' hi e with⟨i1,i2⟩|⟨rfl,rfl⟩
  ·exact eF i d' i1 e
  ·rw[ei,oF _ bf];rfl
unseal Fl.W in
theorem Kl{b:Bool}{m:Me}{x:PV}{d:Nat}(I:Nat->Ev->PH->Prop)(e:m δ h=.ok x h1)(ew:wkI b x h1=some (d,o,xs))(hd:nU h[d]?=true)(h0:I 0 δ (h1.set d (.fz o)))(keep:∀q δ h,I q δ h->h[d]?=some (.fz o))(step:∀(q:Nat) y δ h,xs[q]?=some y->I q δ h->∃δ1,tg y δ=some δ1/\(body δ1 h).W { nx:=I (q+1),ct:=I (q+1),rt:=λ_ _=>False,bk:=λ_ _=>False })(fin:∀δ h,I xs.length δ h->E.nx δ (h.set d o)):(oX b m (cE (sQ b m) tg body) δ h).W E:=by
 have go:(eK (λ_=>true) tg body xs δ (h1.set d (.fz o))).W { nx:=λδ h=>I xs.length δ h,rt:=λ_ _=>False,bk:=λ_ _=>False,ct:=λ_ _=>False }:=oQ I _ 0 δ _ h0 (λq y δ h _ hx hi=>⟨rfl,by
  obtain⟨δ1,t1,w1⟩:=step q y δ h (by simpa using hx) hi
  refine⟨δ1,t1,?_⟩;cases eb:body δ1 h with
  |nx δ2 h2=>rw[eb]at w1;exact w1
  |ct δ2 h2=>rw[eb]at w1;exact w1
  |bk δ2 h2=>rw[eb]at w1;exact w1.elim
  |rt p h2=>rw[eb]at w1;exact w1
  |exc=>rw[eb]at w1;exact w1
  |bad=>rw[eb]at w1;exact w1⟩) (λδ h hi=>⟨rfl,by simpa using hi⟩)
 unfold oX;rw[K9 e ew hd];dsimp only;unfold cE;rw[EX e ew,Rs.fl_ok];cases el:eK (λ_=>true) tg body xs δ (h1.set d (.fz o)) with
 |nx δ2 h2=>
  rw[el]at go;have g:I xs.length δ2 h2:=go;have g2:=keep _ _ _ g;simp only[kN,jL,g2];exact fin δ2 h2 g
 |ct δ2 h2=>rw[el]at go;exact go.elim
 |bk δ2 h2=>rw[el]at go;exact go.elim
 |rt p h2=>rw[el]at go;exact go.elim
 |exc=>rw[el]at go;exact go.elim
 |bad=>rw[el]at go;exact go.elim
set_option tactic.hygienic true in
theorem Bb(e:aT h n=some kvs):∃o,h[n]?=some o/\nU (some o)=true/\lO o=some (kvs.map λkv=>.tup [kv.1,kv.2]):=by
 unfold aT at e;split at e
 ·rename_i k hk;cases e;exact⟨_,hk,rfl,rfl⟩
 ·rename_i hk;cases e;exact⟨_,hk,rfl,rfl⟩
 ·cases e
theorem MN(nd:(os.map (·.nm)).Nodup)(wf:∀d∈os,AcK d)(rt:∀d∈os,d.nm≠root)(ln:os.length<=50)(g:h[n]?=some (.lst (os.map dP)))(k:∀lF F h',Ext h h'->Tb h' lF os.length F->(∀i d,os[i]?=some d->F d.nm=if idD (os.take i) d=true then some idV else none)->(∀x,x∉os.map (·.nm)->F x=none)->h.length<=lF->Q (.ref lF) h'):(eG [.ref n] h).W Q:=by
 refine cA ?_;unfold eD;rw[aD];have e0:=Fx h;have xE:Ext h (h++[MO.lst []]++[MO.lst []]):=(Ext.app _ _).trans (Ext.app _ _);have ga:(h++[MO.lst []]++[MO.lst []])[h.length]?=some (.lst []):=Ext.app _ _ _ _ aF;have gb:(h++[MO.lst []]++[MO.lst []])[h.length+1]?=some (.lst []):=by
  have:h.length+1=(h++[MO.lst []]).length:=by simp
  rw[this];exact aF
 generalize h++[MO.lst []]++[MO.lst []]=hE at e0 xE ga gb;rw[BA];refine xZ (ps:=[.tup [.ref h.length,.ref (h.length+1)]]) (h1:=hE) (by simp[e0]) rfl ?_;refine Fw (h0:=hE) (Ext.app _ _) aF (Ext.app _ _ _ _ ga) (Ext.app _ _ _ _ gb) λlt lm lf ll h1 x1 b1 b3 f1=>⟨rfl,now ?_⟩;rw[aD,BA];have lE:=xE.len;obtain⟨m1,m2,m3,m4⟩:=f1.hi;have l1:=x1.len;refine FH λh2 x2 l2 u2=>now ?_;rw[aD];simp;have x3:Ext h2 (h2++[MO.dK []]):=Ext.app _ _;have t3:Tb (h2++[MO.dK []]) h2.length 0 (λ_=>none):=Tb.nil aF;have B:Bd h.length hE.length lt lm ll h1.length h2.length:=⟨by omega,⟨m1,m2,m3,m4⟩,by omega⟩;have p0:PL h hE.length lt lm lf ll h1.length h2.length os 0 (h2++[MO.dK []]):=⟨xE.trans (x1.trans (x2.trans x3)),f1.base (x2.trans x3) (by omega) (by simp),u2.keep λi o _ _ e=>x3 _ _ e,_,t3,(λi d hi=>absurd hi (Nat.not_lt_zero _)),λ_ _=>rfl⟩;generalize h2.length=lF at t3 B p0;generalize h2++[MO.dK []]=h3 at t3 p0 x3;generalize h1.length=lu at B p0;generalize hE.length=l at B p0;clear u2 l2 x3 t3 x2 m1 m2 m3 m4 f1 x1;refine now ?_;rw[aD];refine fF (n:=n) (xs:=os.map dP) (h1:=h3) (λq δ h'=>PL h l lt lm lf ll lu lF os q h'/\∃x4 x5 x6 x7 x8 x9,δ=[some (.ref n),some (.ref l),some (.ref lu),some (.ref lF),x4,x5,x6,x7,x8,x9]) (by simp) (p0.x _ _ g) ⟨p0,_,_,_,_,_,_,rfl⟩ (λq δ h' _ i=>i.1.x _ _ g) ?_ ?_
 ·rintro q y δ h' hy ⟨p,x4,x5,x6,x7,x8,x9,rfl⟩;rw[Pu]at hy;obtain⟨d,hd,rfl⟩:=PB.mp hy;exact⟨_,rfl,HG nd wf rt ln B p hd λx8 h2 p2=>⟨p2,_,_,_,_,_,_,rfl⟩⟩
 ·rintro δ h' ⟨p,x4,x5,x6,x7,x8,x9,rfl⟩;rw[Pl]at p;obtain⟨x,fs,u,F,tF,eF,oF⟩:=p;rw[QK]at oF;obtain⟨lo,hi,hF⟩:=B;refine now ?_;rw[aD];obtain⟨E,tE,lE,ndE,eE⟩:=u.un;obtain⟨o,ho,hd,hit⟩:=Bb tE;have e0:qN aV fU (mUn (dW "undone") (mV 2)) [some (.ref n),some (.ref l),some (.ref lu),some (.ref lF),x4,x5,x6,x7,x8,x9] h'=.ok (.ref h'.length) (h'++[.vw 0 (lu+1)]):=by
   simp[u.fu,u.un.dict,B3 ho hd]
  have y1:Ext h' (h'++[MO.vw 0 (lu+1)]):=Ext.app _ _;have kh:=y1 _ _ ho;have wk:=EW aF kh hit;have t1:=tF.ext y1;have xx:=x.trans y1;have OG:E=[]:=List.eq_nil_of_length_eq_zero (Nat.le_zero.mp lE);subst OG;generalize h'.length=lv at e0 wk;generalize h'++[MO.vw 0 (lu+1)]=h1 at e0 wk y1 kh t1 xx;refine Kl (d:=lu+1) (o:=o) (xs:=[]) (h1:=h1) (λq δ h2=>(∀(i:Nat) o,i≠lu+1->h1[i]?=some o->h2[i]?=some o)/\h2[lu+1]?=some (.fz o)/\δ=[some (.ref n),some (.ref l),some (.ref lu),some (.ref lF),x4,x5,x6,x7,x8,x9]) e0 wk (by rw[ho];exact hd) ⟨λi o hi e=>aK e (Ri hi),bB kh,rfl⟩ (λq δ h2 i=>i.2.1) ?_ ?_
  ·intro q y δ h2 hy;simp at hy
  ·rintro δ h2 ⟨fr,gz,rfl⟩;refine now ?_;simp;obtain⟨b1,b2,b3⟩:=lo;have kk:∀(i:Nat) ob,h1[i]?=some ob->(h2.set (lu+1) o)[i]?=some ob:=λi ob e=>by
    by_cases z:i=lu+1
    ·subst z;rw[kh]at e;cases e
     exact bB gz
    ·exact aK (fr i ob z e) (Ri z)
   exact k lF F _ (λi o e=>kk _ _ (xx _ _ e)) (t1.keep λo e=>kk _ _ e) (λi d hd=>eF i d ((Pg.mp hd).1) hd) oF (by omega)
variable{ys:List Dd}
theorem Ac{xs:List Dd}(hx:gH xs)(hy:gH ys)(nx:(xs.map (·.nm)).Nodup)(ny:(ys.map (·.nm)).Nodup)(h:∀d,d∈xs↔d∈ys):xs=ys:=by
 have n1:xs.Nodup:=(Q1.mp nx).imp λh e=>h (by rw[e]);have n2:ys.Nodup:=(Q1.mp ny).imp λh e=>h (by rw[e]);refine RU (le:=λa b:Dd=>aN (kyL b) (kyL a)=false) (λa b ha hb h1 h2=>?_) hx hy ((List.perm_ext_iff_of_nodup n1 n2).mpr h);exact xY nx ha ((h b).mpr hb) (B7 _ _ (jB rfl h2 h1))
def Ad(y:Nm):PV:=.tup [.str "back",pv y]
def jV:PV:=.tup [.str "stands"]
def layB(B:Nm->Option Nm)(L:List Nm)(F:Nm->Option PV):Nm->Option PV:=λp=>if p∈L then(B p).map Ad else F p
def bY(ds:List Dd)(os:List Dd):List Dd:=os.filter λd=>((aX ds.reverse).tk d.nm).isNone
theorem FK{ds hs:List Dd}(hw:∀d∈ds,Wf d)(ac:∀d∈ds,AcK d)(rt:∀d∈ds,d.nm≠root)(dn:Down (ds.reverse.map tri))(hl:hs.length<=63)(ln:ds.length<=40)(mem:∀d,d∈hs↔d∈ds)(hu:∀d∈hs,∀e∈hs,d.nm=e.nm->d=e)(g:h[n]?=some (.lst (hs.map dP)))(Q:PV->PH->Prop)(k:∀os (fv:Dd->PV) l h',Ext h h'->(os.map (·.nm)).Nodup->(∀d,d∈os↔d∈ds)->gH os->h'[l]?=some (.lst (os.map λd=>.tup [pv d.nm,fv d]))->
   (∀d∈os,∀y,(aX ds.reverse).tk d.nm=some y->fv d=Ad y)->(∀i d,(bY ds os)[i]?=some d->fv d=if idD ((bY ds os).take i) d=true then idV else jV)->Q (.ref l) h'):(xV [.ref n] h).W Q:=by
 refine cA ?_;unfold xU;rw[aD];simp;refine Kj hw dn hl mem hu g _ λos l1 h1 x1 _ g1 nd mo rk=>?_;have g1:h1[l1]?=some (.lst ((bY ds os).map dP)):=g1;have sub:∀d∈bY ds os,d∈ds:=λd hd=>(mo d).mp ((Q3.mp hd).1);have lno:os.length<=ds.length:=by
  have h1:(os.map (·.nm)).length<=(ds.map (·.nm)).length:=QP nd λp hp=>by
   obtain⟨d,hd,rfl⟩:=Pw.mp hp;exact Pw.mpr ⟨d,(mo d).mp hd,rfl⟩
  simpa using h1
 have lf:(bY ds os).length<=os.length:=List.length_filter_le _ _;have tm:((bY ds os).map (·.nm)).Nodup:=(List.filter_sublist.map _).nodup nd;refine MN tm (λd hd=>ac d (sub d hd)) (λd hd=>rt d (sub d hd)) (by omega) g1 λlF F h2 x2 tF eF oF lo=>?_;refine now ?_;rw[aD];have gn:=(x1.trans x2) _ _ g;have l12:=x1.len;obtain⟨v,h3,e3,M,l3,rfl,x3,b3,g3,lM,m1,m2⟩:=lI (Kk hw dn hl mem hu gn (Q:=λv h3=>∃(M:List (Nm×Nm))(l3:Nat),v=.ref l3/\Ext h2 h3/\h2.length<=l3/\h3[l3]?=some (.lst (M.map λx=>.tup [pv x.1,pv x.2]))/\M.length<=63/\(∀x∈M,(aX ds.reverse).tk x.1=some x.2)/\(∀d∈ds,∀y,(aX ds.reverse).tk d.nm=some y->(d.nm,y)∈M)) λM l3 h3 a b c d e f=>⟨M,l3,rfl,a,b,c,d,e,f⟩);have ltF:=tF.lt;have t3:=tF.ext x3;refine fF (n:=l3) (xs:=M.map λx=>.tup [pv x.1,pv x.2]) (h1:=h3) (λq δ h'=>(∀(i:Nat) o,i≠lF->h3[i]?=some o->h'[i]?=some o)/\Tb h' lF ((bY ds os).length+q) (layB (aX ds.reverse).tk ((M.take q).map (·.1)) F)/\∃x2 x3,δ=[some (.ref n),some (.ref lF),x2,x3]) (by simp[e3]) g3 ⟨λ_ _ _ e=>e,t3.to λp=>by simp[layB],_,_,rfl⟩ (λq δ h' _ i=>i.1 _ _ (by omega) g3) ?_ ?_
 ·rintro q y δ h' hy ⟨fr,t,y2,y3,rfl⟩;rw[Pu]at hy;obtain⟨m,hm,rfl⟩:=PB.mp hy;have mm:=m1 m (PD hm);have hq:q<M.length:=(Pg.mp hm).1;have e1:M.take (q+1)=M.take q++[m]:=by rw[Qh,hm];rfl
  refine⟨_,by simp;rfl,?_⟩;unfold pK;obtain⟨o,hp,t2⟩:=t.put (by omega) m.1 (Ad m.2);have jh:eW (.ref lF) (pv m.1) (.tup [.str "back",pv m.2]) h'=some (h'.set lF o):=hp;simp[jh];refine⟨λi o a e=>aK (fr i o a e) (Ri a),t2.to λp=>?_⟩;unfold upN layB;rw[<-List.map_take,e1,PZ]
  by_cases c:p=m.1
  ·subst c;simp[mm]
  ·simp[c]
 ·rintro δ h' ⟨fr,t,y2,y3,rfl⟩;rw[Pl,QK]at t;refine now ?_;have xh:Ext h h':=λi o e=>have hi:=(Pg.mp e).1;fr i o (by omega) (x3 _ _ ((x1.trans x2) _ _ e));obtain⟨v,h4,e4,bj,l4,rfl,x4,g4,xm,Pd,yp⟩:=lI (jS hs (λd hd=>hw d ((mem d).mp hd)) hl hu n h' (xh _ _ g) (λv h4=>∃(bj:List Dd)(l4:Nat),v=.ref l4/\Ext h' h4/\h4[l4]?=some (.lst (bj.map dP))/\(bj.map (·.nm)).Nodup/\(∀d,d∈bj↔d∈hs)/\gH bj) λbj l4 h4 a b c d e=>⟨bj,l4,rfl,a,b,c,d,e⟩);have eo:bj=os:=Ac yp rk xm nd λd=>(Pd d).trans ((mem d).trans (mo d).symm);subst eo;have t4:=t.ext x4;have hc:=nK (js:=[none,some 1]) (tg:=gN 0) (tst:=lH) (elt:=bZ (aA (aB vAt (mV 0) (mC (.int 0))) (aA (mMt aV nM (mV 1) (aA (aB vAt (mV 0) (mC (.int 0))) (aA (bZ (aA (mC (.str "stands")) aC)) aC))) aC))) (m:=aO 1 cY (aA (mV 0) aC)) (δ:=[some (.ref n),some (.ref lF),y2,y3]) (h:=h') (h1:=h4) (n:=l4) (ys:=bj) (emb:=dP)
   (λd=>some (.tup [pv d.nm,((layB (aX ds.reverse).tk (M.map (·.1)) F) d.nm).getD jV])) (by simp[e4]) g4 (by omega) (λd hd=>⟨_,rfl,λh5 hx=>⟨rfl,by simp[fP,dP0,(t4.ext hx).dict,(t4.ext hx).get];rfl⟩⟩)
  rw[filterMap_some]at hc;simp[hc];refine k bj _ _ _ (xh.trans (x4.trans (Ext.app _ _))) nd mo rk aF (λd hd y e=>?_) λi d hd=>?_
  ·have:d.nm∈M.map (·.1):=Pw.mpr ⟨_,m2 d ((mo d).mp hd) y e,rfl⟩;unfold layB;rw[if_pos this,e];rfl
  ·have OP:(aX ds.reverse).tk d.nm=none:=by
    have:=(Q3.mp (PD hd)).2;simpa using this
   have:d.nm∉M.map (·.1):=λz=>by
    obtain⟨x,hx,e⟩:=Pw.mp z;have:=m1 x hx;rw[e,OP]at this;cases this
   unfold layB;rw[if_neg this,eF i d hd];split <;> rfl
def drawn(c k:Int):Int:=
 let n:=(c+7919*k+1)*48271%2147483647
 n*(n/1009+69621)%2147483647
theorem dU(c k:Int):0<=drawn c k/\drawn c k<2147483647:=⟨Int.emod_nonneg _ (by decide),Int.emod_lt_of_pos _ (by decide)⟩
@[simp]theorem MP(c k:Int)(h:PH):bX [.int c,.int k] h=.ok (.int (drawn c k)) h:=by
 simp(disch:=omega) [bX,mFn,xH,aG,aS,bD,drawn]
theorem Bc(h:1<=z.length):(Si z none (some (-1))).cps.toList=z.cps.toList.dropLast:=by
 have e:Si z none (some (-1))=Si z none (some (-1+(z.length:Int))):=StrLaws.sliceText_neg_hi z none (by omega) (by omega);rw[e,F9 (by omega) (by omega),List.dropLast_eq_take,len_list]
 congr 1
 omega
abbrev FL:Str:="cdefg"
theorem Dq:FL.cps.toList=[99,100,101,102,103]:=by decide +kernel
def LI5(hs:List Str)(fw:List Nat)(c:Int)(q:Nat)(lh:Nat)(x4:Option PV)(h2:PH)(i:Nat)(δ:Ev)(h3:PH):Prop:=h3=h2/\∃(w:Str)(x5:Option PV),w.length<=8/\1<=w.length/\w.cps.toList.dropLast=fw/\(w∉hs\/∀j a,j<i->FL.cps.toList[j]?=some a->∃z∈hs,z.cps.toList=fw++[a])/\δ=[some (.int c),some (.ref lh),some (.int q),some (.str w),x4,x5]
variable{fw:List Nat}{hs:List Str}
theorem HH(hl:hs.length<=3)(h:∀j a,j<5->FL.cps.toList[j]?=some a->∃z∈hs,z.cps.toList=fw++[a]):False:=by
 rw[Dq]at h;have nd:([99,100,101,102,103].map λa=>fw++[a]).Nodup:=by simp
 have:=QP (l₂:=hs.map λz=>z.cps.toList) nd λx hx=>by
  obtain⟨a,ha,rfl⟩:=Pw.mp hx;obtain⟨j,hj,e⟩:=List.mem_iff_getElem.mp ha;obtain⟨z,hz,ez⟩:=h j a (by simpa using hj) (by rw[Rl hj,e])
  exact Pw.mpr ⟨z,hz,ez⟩
 simp at this;omega
def HI(c:Int)(h:PH)(q:Nat)(δ:Ev)(h':PH):Prop:=∃hs:List Str,Ext h h'/\h'[h.length]?=some (.lst (hs.map PV.str))/\hs.length=q/\hs.Nodup/\∃x2 x3 x4 x5,δ=[some (.int c),some (.ref h.length),x2,x3,x4,x5]
theorem FM(c:Int)(h:PH)(Q:PV->PH->Prop)(k:∀(hs:List Str) l h',Ext h h'->h'[l]?=some (.lst (hs.map PV.str))->hs.length=3->hs.Nodup->Q (.ref l) h'):(xJ [.int c] h).W Q:=by
 refine cA ?_;unfold xI;rw[aD];simp;have x0:Ext h (h++[MO.lst []]):=Ext.app _ _;have g0:(h++[MO.lst []])[h.length]?=some (.lst (([]:List Str).map PV.str)):=aF;generalize h++[MO.lst []]=hA at x0 g0;refine now ?_;rw[aD];refine AQ (j:=3) (HI c h) (by simp) (by omega) ⟨[],x0,g0,rfl,Sa,_,_,_,_,rfl⟩ ?_ ?_
 ·rintro q δ h' hq ⟨hs,x,g,lh,nd,x2,x3,x4,x5,rfl⟩;unfold pD;rw[aD];simp;refine now ?_;rw[aD];have hd:=dU c (50+q);refine AQ (j:=1+drawn c (50+q)%8) (λi δ h2=>h2=h'/\∃(w:Str)(x4:Option PV),w.length=i/\δ=[some (.int c),some (.ref h.length),some (.int q),some (.str w),x4,x5]) (by simp(disch:=omega)) (by omega) ⟨rfl,_,_,rfl,rfl⟩ ?_ ?_
  ·rintro i δ h2 hi ⟨rfl,w,x4,lw,rfl⟩;unfold pB;have hd2:=dU c (60+9*q+i);have hc:=Hm (i:=drawn c (60+9*q+i)%26) (by omega) (by omega);have hl:=vO;have h1:(⟨#[97+(drawn c (60+9*q+i)%26).toNat]⟩:Str).length=1:=rfl;have hv:vIx (.str "abcdefghijklmnopqrstuvwxyz") (.int (drawn c (60+9*q+i)%26)) h2=.ok (.str ⟨#[97+(drawn c (60+9*q+i)%26).toNat]⟩) h2:=by
    show vIx (.str F6) _ _=_
    rw[qU (by rw[vO];omega),hc];rfl
   simp(disch:=omega) [-qU,hv];rw[tG];omega
  ·rintro δ h2 ⟨rfl,w,x4,lw,rfl⟩;refine now ?_;rw[aD];refine K' (x:=FL) (LI5 hs w.cps.toList.dropLast c q h.length x4 h2) (by simp) (by decide +kernel) ⟨rfl,w,_,by omega,by omega,rfl,.inr λj a hj=>absurd hj (Nat.not_lt_zero _),rfl⟩ ?_ ?_
   ·rintro i cc δ h3 hc ⟨rfl,y,x5,ly,l1,es,hy,rfl⟩;refine⟨_,rfl,?_⟩;unfold pC;rw[cG];have al:(hs.map PV.str).all (PV.pl 39)=true:=by
     rw[P3];intro y hy;obtain⟨t,_,rfl⟩:=Pw.mp hy;rfl
    have cv:=GS (x:=.str y) g rfl al;have sl:=Bc l1;have e1:(Si y none (some (-1))++(⟨#[cc]⟩:Str)).cps.toList=w.cps.toList.dropLast++[cc]:=by rw[app_list,sl,es]
    have l2:(Si y none (some (-1))).length=y.length-1:=by rw[<-len_list,sl,List.length_dropLast,len_list]
    have h1:(⟨#[cc]⟩:Str).length=1:=rfl;have ot:(PV.str y∈hs.map PV.str)↔y∈hs:=⟨λz=>by obtain⟨t,ht,e⟩:=Pw.mp z;exact PV.str.inj e▸ht,λz=>Pw.mpr ⟨y,z,rfl⟩⟩
    by_cases c1:y∈hs
    ·rw[decide_eq_true (ot.mpr c1)]at cv;simp(disch:=omega) [zK g,cv];have hy:=hy.resolve_left (λz=>z c1);refine⟨rfl,_,_,by rw[tG];omega,by rw[tG];omega,by rw[e1];simp,?_,rfl⟩
     by_cases c2:(Si y none (some (-1))++(⟨#[cc]⟩:Str))∈hs
     ·refine .inr λj a hj ea=>?_;rcases Nat.lt_or_ge j i with z|z
      ·exact hy j a z ea
      ·have:j=i:=by omega
       subst this;rw[hc]at ea;cases ea
       exact⟨_,c2,e1⟩
     ·exact .inl c2
    ·rw[decide_eq_false (λz=>c1 (ot.mp z))]at cv;simp[zK g,cv];exact⟨rfl,y,_,ly,l1,es,.inl c1,rfl⟩
   ·rintro δ h3 ⟨rfl,y,x5,ly,l1,es,hy,rfl⟩;refine now ?_;have s5:FL.cps.size=5:=by decide +kernel
    have ny:y∉hs:=hy.resolve_right λz=>HH (hs:=hs) (by omega) λj a hj ea=>z j a (by omega) ea;have ap:=fE (p:=.str y) g (by rw[Pl];omega);rw[show hs.map PV.str++[.str y]=(hs++[y]).map PV.str by simp]at ap;simp[nI g];rw[ap,oP];refine⟨hs++[y],C2 x,bB g,by simp[lh],?_,_,_,_,_,rfl⟩;rw[Qx];exact⟨nd,by simp,λa ha b hb e=>ny (by rw[Pz.mp hb]at e;exact e▸ha)⟩
 ·rintro δ h' ⟨hs,x,g,lh,nd,x2,x3,x4,x5,rfl⟩;refine now ?_;obtain⟨zs,pz,ez⟩:=zQ g (by omega);simp[ez];have:=pz.length_eq;exact k zs _ _ (x.trans (Ext.app _ _)) aF (by omega) (pz.nodup_iff.mpr nd)
theorem FN:(PM "abcdefgh").cps.toList.length=8:=by decide +kernel
theorem HJ:(PM "abcdefgh").length=8:=by decide +kernel
theorem Km(c:Int)(w:Str)(n:Int)(h1:1<=n)(h2:n<=2000000000)(Q:PV->PH->Prop)(k:∀kd act,WfA kd act->(∀nm seen,AcK ⟨nm,seen,kd,act⟩)->Q (.tup act) h):(F2 [.int c,.str w,.int n] h).W Q:=by
 refine cA ?_;unfold F1;rw[aD];have d2:=dU c 2;have d3:=dU c 3;have d4:=dU c 4;have d5:=dU c 5;have d6:=dU c 6;simp(disch:=omega);generalize drawn c 2%8=wy;refine now ?_;rw[aD];simp(disch:=omega);have OR:∃nr:Int,(if 1<n-1-drawn c 3%6 then n-1-drawn c 3%6 else 1)=nr/\1<=nr/\nr<=2000000000:=⟨_,rfl,by split <;> omega,by split <;> omega⟩;obtain⟨nr,OS,r1,r2⟩:=OR;rw[OS];refine now ?_;rw[aD,cG]
 by_cases c1:wy<3
 ·simp(disch:=omega) [c1];exact k (.back nr (nr+drawn c 4%5)) _ rfl λnm seen=>.back _ _ rfl rfl
 ·simp[c1];refine now ?_;rw[aD,cG]
  by_cases c2:wy=3/\drawn c 5%2=1
  ·simp(disch:=omega) [c2.1,c2.2];exact k .settle _ rfl λnm seen=>.settle rfl rfl
  ·have tv:(jF (aQ (aB vEq (mV 3) (mC (.int 3)))) (aQ (aB vEq (aB iW (aO 2 bX (aA (mV 0) (aA (mC (.int 5)) aC))) (mC (.int 2))) (mC (.int 1))))) [some (.int c),some (.str w),some (.int n),some (.int wy),some (.int nr)] h=.ok false h:=by
    by_cases c3:wy=3
    ·have c4:¬ drawn c 5%2=1:=λz=>c2 ⟨c3,z⟩;simp(disch:=omega) [c3,c4]
    ·simp[c3]
   rw[tv,oP];simp;refine now ?_;rw[aD,cG]
   by_cases c5:wy<6
   ·obtain⟨cc,ec,_⟩:=BH (xs:=(PM "abcdefgh").cps.toList) (i:=drawn c 5) (by intro z;have:=FN;rw[z]at this;cases this);have ec:atI (PM "abcdefgh").cps.toList (drawn c 5%8)=some cc:=by rw[FN]at ec;exact ec
    have hv:vIx (.str "abcdefgh") (.int (drawn c 5%8)) h=.ok (.str ⟨#[cc]⟩) h:=by
     rw[qU (by rw[HJ];omega),ec];rfl
    have hr:D5 (.str ⟨#[cc]⟩) (.int (1+drawn c 6%12)) h=.ok (.str (Txt.mul ⟨#[cc]⟩ (1+drawn c 6%12))) h:=by
     unfold D5;exact if_pos ⟨show 1<=16 by omega,by omega,by omega⟩
    simp(disch:=omega) [-qU,c5,hv,hr];exact k .other _ ⟨_,_,rfl,by decide +kernel,by decide +kernel⟩ λnm seen=>.make _ rfl rfl
   ·simp[c5];refine now ?_;simp(disch:=omega);exact k .other _ ⟨_,_,rfl,by decide +kernel,by decide +kernel⟩ λnm seen=>.add (w,nr) _ rfl rfl
theorem nY(S:Seen)(h h':Str)(n:Int):look (dput S h n) h'=if h'=h then some n else look S h':=by
 have m:∀S:Seen,look (S.map λp=>if p.1=h then(p.1,n) else p) h'=if h'=h then(look S h).map (λ_=>n) else look S h':=λS=>by
  induction S with
  |nil=>simp[look]
  |cons x r ih=>
   rw[Pv,dJ,ih]
   by_cases e:x.1=h
   ·rw[if_pos e]
    by_cases c:h'=h
    ·rw[if_pos (show x.1=h' by rw[e,c]),if_pos c,dJ,if_pos e];rfl
    ·have c2:¬ x.1=h':=λz=>c (z▸e);rw[if_neg (show ¬ x.1=h' from c2),if_neg c,if_neg c,dJ,if_neg c2]
   ·rw[if_neg e]
    by_cases c:h'=h
    ·rw[if_neg (λz:x.1=h'=>e (z.trans c)),if_pos c,if_pos c,dJ,if_neg e]
    ·rw[if_neg c,if_neg c,dJ]
 have a:∀S:Seen,look S h=none->look (S++[(h,n)]) h'=if h'=h then some n else look S h':=λS=>by
  induction S with
  |nil=>
   intro _
   show(if h=h' then some n else none)=if h'=h then some n else none
   by_cases c:h'=h
   ·rw[if_pos c,if_pos c.symm]
   ·rw[if_neg c,if_neg λz=>c z.symm]
  |cons x r ih=>
   intro e;rw[dJ]at e
   by_cases c:x.1=h
   ·rw[if_pos c]at e;cases e
   ·rw[if_neg c]at e;rw[SF,dJ,dJ,ih e]
    by_cases q:h'=h
    ·rw[if_pos q,if_pos q,if_neg (λz:x.1=h'=>c (z.trans q))]
    ·rw[if_neg q];rw[if_neg q]
 unfold dput;cases e:look S h with
 |none=>rw[if_neg (by simp)];exact a S e
 |some v=>rw[if_pos (by simp),m,e];rfl
structure MI(hs:List Str)(D:Seen)(ds:List Dd)(q:Nat):Prop where
 wf:∀d∈ds,Wf d
 ac:∀d∈ds,AcK d
 pos:∀d∈ds,1<=d.nm.2
 up:ds.Pairwise λa b=>a.nm.1=b.nm.1->a.nm.2<b.nm.2
 ld:ds.length<=q
 lD:D.length<=3+q
 hm:∀w∈hs,∃m,look D w=some m/\0<=m/\m<=1000000000+q
 dm:∀d∈ds,∃m,look D d.nm.1=some m/\d.nm.2<=m
theorem MI.step{D:Seen}{ds:List Dd}{q:Nat}(i:MI hs D ds q)(hw:w∈hs){m:Int}(e:look D w=some m){d:Dd}(en:d.nm=(w,m+1))(wd:Wf d)(ad:AcK d):MI hs (dput D w (m+1)) (ds++[d]) (q+1):=by
 obtain⟨m',e',h0,h1⟩:=i.hm w hw;rw[e]at e';cases e'
 have old:∀v x,look D v=some x->∃y,look (dput D w (m+1)) v=some y/\x<=y/\(y<=x\/y=m+1):=λv x ex=>by
  rw[nY]
  by_cases z:v=w
  ·rw[if_pos z];rw[z,e]at ex;cases ex;exact⟨_,rfl,by omega,.inr rfl⟩
  ·rw[if_neg z];exact⟨x,ex,Int.le_refl _,.inl (Int.le_refl _)⟩
 have one:∀{P:Dd->Prop},(∀x∈ds,P x)->P d->∀x∈ds++[d],P x:=λa b x hx=>by
  rcases PK.mp hx with hx|hx
  ·exact a x hx
  ·rw[Pz.mp hx];exact b
 refine⟨one i.wf wd,one i.ac ad,one i.pos (by rw[en];show 1<=m+1;omega),?_,by simp;exact i.ld,?_,λv hv=>?_,one (λx hx=>?_) ?_⟩
 ·rw[List.pairwise_append];refine⟨i.up,R7 _ _,λx hx y hy z=>?_⟩;rw[Pz.mp hy,en]at z⊢;obtain⟨v,ev,lv⟩:=i.dm x hx;have z:x.nm.1=w:=z;rw[z,e]at ev;cases ev
  show x.nm.2<m+1
  omega
 ·have:=C0 (S:=D) (h:=w) (n:=m+1);have:=i.lD;omega
 ·obtain⟨x,ex,hx,hx2⟩:=i.hm v hv;obtain⟨y,ey,hy,OW⟩:=old v x ex;exact⟨y,ey,by omega,by rcases OW with z|z <;> omega⟩
 ·obtain⟨v,ev,lv⟩:=i.dm x hx;obtain⟨y,ey,hy,_⟩:=old _ v ev;exact⟨y,ey,by omega⟩
 ·rw[en];exact⟨m+1,by rw[nY,if_pos rfl],Int.le_refl _⟩
theorem MI.nd{D:Seen}{ds:List Dd}{q:Nat}(i:MI hs D ds q):(ds.map (·.nm)).Nodup:=by
 refine Q1.mpr (i.up.imp λ{a b} h z=>?_);have:=h (by rw[z]);rw[z]at this;omega
theorem MI.down{D:Seen}{ds:List Dd}{q:Nat}(i:MI hs D ds q):Down (ds.reverse.map tri):=by
 refine Q1.mpr (Sn.mpr (i.up.imp λ{a b} h z=>?_));exact h z.symm
theorem MI.rt{D:Seen}{ds:List Dd}{q:Nat}(i:MI hs D ds q):∀d∈ds,d.nm≠root:=λd hd z=>by
 have:=i.pos d hd;rw[z]at this;exact absurd this (by decide)
theorem AcK.wf{d:Dd}(a:AcK d)(hl:d.seen.length<=100):Wf d:=by
 have h:WfA d.kd d.act/\d.act.all (PV.pl 37)=true:=by
  cases a with
  |settle e ea=>rw[e,ea];exact⟨rfl,rfl⟩
  |back f l e ea=>rw[e,ea];exact⟨rfl,rfl⟩
  |make z e ea=>rw[e,ea];exact⟨⟨_,_,rfl,by decide +kernel,by decide +kernel⟩,rfl⟩
  |add t v e ea=>rw[e,ea];exact⟨⟨_,_,rfl,by decide +kernel,by decide +kernel⟩,rfl⟩
 exact⟨hl,h.1,h.2⟩
theorem nZ{D:Seen}{m:Int}(g:h[n]?=some (.dK (emb D)))(e:look D w=some m):vIx (.ref n) (.str w) h=.ok (.int m) h:=by
 rw[JZ g,sZ,e];rfl
def Fr1(ls:Nat)(h h':PH):Prop:=∀(i:Nat) o,i≠ls->h[i]?=some o->h'[i]?=some o
def SN(hs:List Str)(x0 x4:Option PV)(lh lm ls:Nat)(w:Str)(c:Int)(h:PH)(q:Nat)(δ:Ev)(h':PH):Prop:=∃S:Seen,Fr1 ls h h'/\h'[ls]?=some (.lst (S.map pv))/\S.length<=q/\(S.map (·.1)).Nodup/\(∀p∈S,p.1∈hs.take q)/\∃x7 x8,δ=[x0,some (.ref lh),some (.ref lm),some (.str w),x4,some (.int c),some (.ref ls),x7,x8]
variable{lh:Nat}
theorem HK(lj:hs.Nodup){D:Seen}(hm:∀w∈hs,∃m,look D w=some m/\0<=m/\m<=1000000100)(l3:hs.length=3){m:Int}(em:look D w=some m){ls:Nat}{c:Int}(n1:lh≠ls)(n2:lm≠ls)(gh:h[lh]?=some (.lst (hs.map PV.str)))(gm:h[lm]?=some (.dK (emb D)))(gs:h[ls]?=some (.lst [])){x0:Option PV}(k:∀(S:Seen) h' x7 x8,Fr1 ls h h'->h'[ls]?=some (.lst (S.map pv))->S.length<=4->(S.map (·.1)).Nodup->E.nx [x0,some (.ref lh),some (.ref lm),some (.str w),x4,some (.int c),some (.ref ls),x7,x8] h'):
  (cE (qD (aA (mC (.int 3)) aC)) (gN 7) gP [x0,some (.ref lh),some (.ref lm),some (.str w),x4,some (.int c),some (.ref ls),x7,x8] h).W E:=by
 refine AQ (j:=3) (SN hs x0 x4 lh lm ls w c h) (by simp) (by omega) ⟨[],(λ_ _ _ e=>e),gs,Pk _,Sa,(λ_ z=>nomatch z),_,_,rfl⟩ ?_ ?_
 ·rintro q δ h' hq ⟨S,fr,gS,lS,nS,sS,x7,x8,rfl⟩;obtain⟨v,hv⟩:∃v,hs[q]?=some v:=⟨_,Rl (by omega)⟩;have av:atI (hs.map PV.str) (q:Int)=some (.str v):=bQ (by rw[Pu,hv];rfl);obtain⟨mv,ev,h0,h00⟩:=hm v (PD hv);have kz:=fr _ _ n1 gh;have n0:=fr _ _ n2 gm;have q1:=nZ n0 ev;have q2:=nZ n0 em
  show(gP [x0,some (.ref lh),some (.ref lm),some (.str w),x4,some (.int c),some (.ref ls),some (.int q),x8] h').W _
  unfold gP;rw[aD];have hd:=dU c (7+q);have hd8:=dU c 8;simp(disch:=omega) [kA kz,av,q1];refine now ?_;rw[aD,cG];have nv:v∉hs.take q:=λz=>by
   have e1:hs=hs.take q++(v::hs.drop (q+1)):=by
    obtain⟨hl,e⟩:=Pg.mp hv;rw[<-e,<-List.drop_eq_getElem_cons hl,Q2]
   rw[e1,Qx]at lj;exact lj.2.2 v z v (by simp) rfl
  have tk:hs.take (q+1)=hs.take q++[v]:=by rw[Qh,hv];rfl
  have fin:∀(E:FE)(n:Int),(∀δ h',SN hs x0 x4 lh lm ls w c h (q+1) δ h'->E.nx δ h')->Lt (bK (aQ (aB vGt (mV 8) (mC (.int 0)))) (nE (mMt isL (onL cK) (mV 6) (aA (bZ (aA (aB vAt (mV 1) (mV 7)) (aA (mV 8) aC))) aC))) cQ) E [x0,some (.ref lh),some (.ref lm),some (.str w),x4,some (.int c),some (.ref ls),some (.int q),some (.int n)] h':=λE n kk=>by
   refine now ?_;rw[cG]
   by_cases c0:0<n
   ·have ap:=fE (p:=pv (v,n)) gS (by rw[Pl];omega);rw[show S.map pv++[pv (v,n)]=(S++[(v,n)]).map pv by simp]at ap;have uo:onL cK (.ref ls) [.tup [.str v,.int n]] h'=_:=ap;simp[c0,nI gS,kA kz,av];rw[uo,oP];refine kk _ _ ⟨S++[(v,n)],λi o hi e=>aK (fr i o hi e) (Ri hi),bB gS,by simp;omega,?_,λp hp=>?_,_,_,rfl⟩
    ·rw[PZ,Qx];refine⟨nS,by simp,λa ha b hb z=>?_⟩;obtain⟨p,hp,rfl⟩:=Pw.mp ha;have:b=v:=by simpa using hb
     rw[this]at z;exact nv (z▸sS p hp)
    ·rw[tk];rcases PK.mp hp with hp|hp
     ·exact Qe _ (sS p hp)
     ·rw[Pz.mp hp];exact Pp _ (by simp)
   ·simp[c0];exact kk _ _ ⟨S,fr,gS,by omega,nS,λp hp=>by rw[tk];exact Qe _ (sS p hp),_,_,rfl⟩
  by_cases c1:v=w
  ·subst c1;simp[kA kz,av,q2];refine fin _ _ ?_;exact λ_ _ z=>z
  ·simp[kA kz,av,c1];refine fin _ _ ?_;exact λ_ _ z=>z
 ·rintro δ h' ⟨S,fr,gS,lS,nS,sS,x7,x8,rfl⟩;have lS:S.length<=3:=lS;exact k S h' x7 x8 fr gS (by omega) nS
theorem MQ{α:Type}{xs:List α}{f:α->PV}(h:xs≠[]):∃x∈xs,atI (xs.map f) (i%(xs.length:Int))=some (f x):=by
 obtain⟨p,e,m⟩:=BH (xs:=xs.map f) (i:=i) (by intro z;exact h (List.map_eq_nil_iff.mp z));obtain⟨x,hx,rfl⟩:=Pw.mp m;rw[Pl]at e;exact⟨x,hx,e⟩
def DJ(h:PH)(ns:List Int)(hs:List Str)(cs:List Int)(lh lm ld lc:Nat)(q:Nat)(δ:Ev)(h':PH):Prop:=∃(D:Seen)(ds:List Dd),Ext h h'/\h'[lm]?=some (.dK (emb D))/\h'[ld]?=some (.lst (ds.map dP))/\h'[lc]?=some (.lst (cs.map PV.int))/\MI hs D ds q/\∃x3 x5 x6 x7 x8,δ=[some (.fl (ns.map PV.int)),some (.ref lh),some (.ref lm),x3,some (.ref ld),x5,x6,x7,x8]
variable{cs ns:List Int}
theorem Dr(lj:hs.Nodup){ld lc:Nat}(b:h.length<=lm/\lm<ld/\ld<lc)(gh:h[lh]?=some (.lst (hs.map PV.str)))(l3:hs.length=3){q:Nat}(hq:q<40){c:Int}(i:DJ h ns hs cs lh lm ld lc q δ h')(k:∀δ h',DJ h ns hs cs lh lm ld lc (q+1) δ h'->E.nx δ h'):(gQ (δ.set 5 (some (.int c))) h').W E:=by
 obtain⟨D,ds,x,gm,gd,gc,mi,x3,x5,x6,x7,x8,rfl⟩:=i
 show(gQ [some (.fl (ns.map PV.int)),some (.ref lh),some (.ref lm),x3,some (.ref ld),some (.int c),x6,x7,x8] h').W E
 have hlh:=(Pg.mp gh).1;have z7:=(Pg.mp gc).1;have kz:=x _ _ gh;have ldq:=mi.ld;unfold gQ;rw[aD];obtain⟨w,hw,ew⟩:=MQ (xs:=hs) (f:=PV.str) (i:=drawn c 1) (λz=>by rw[z]at l3;cases l3);rw[l3]at ew;have ew:atI (hs.map PV.str) (drawn c 1%3)=some (.str w):=ew;simp(disch:=omega) [kA kz,ew];refine now ?_;rw[aD];simp;have y1:Ext h' (h'++[MO.lst []]):=Ext.app _ _;have gs:(h'++[MO.lst []])[h'.length]?=some (.lst []):=aF;generalize h'++[MO.lst []]=h1 at y1 gs;refine now ?_;rw[aD];obtain⟨m,em,m0,m1⟩:=mi.hm w hw;refine HK lj (λv hv=>let ⟨m,a,b,c⟩:=mi.hm v hv;⟨m,a,b,by omega⟩) l3 em (by omega) (by omega) (y1 _ _ kz) (y1 _ _ gm) gs λS h2 x7 x8 fr gS lS nS=>?_;have qz:=fr _ _ (by omega) (y1 _ _ gm);have Pb:=fr _ _ (by omega) (y1 _ _ gd);have zx:=fr _ _ (by omega) (y1 _ _ gc);have x2:Ext h h2:=λi o e=>have hh:=(Pg.mp e).1;fr i o (by omega) ((x.trans y1) _ _ e);generalize h'.length=ls at fr gS z7;clear fr gs y1;refine now ?_;rw[aD];have cy:eW (.ref lm) (.str w) (.int (m+1)) h2=some (h2.set lm (.dK (emb (dput D w (m+1))))):=by
  rw[BW qz (by unfold emb;rw[Pl];have:=mi.lD;omega),BZ]
 simp[nZ qz em];refine⟨_,cy,now ?_⟩;have uc:=bB (o':=MO.dK (emb (dput D w (m+1)))) qz;have ql:=aK (o':=MO.dK (emb (dput D w (m+1)))) (n:=lm) Pb (by omega);have v7:=aK (o':=MO.dK (emb (dput D w (m+1)))) (n:=lm) zx (by omega);have w8:=aK (o':=MO.dK (emb (dput D w (m+1)))) (n:=lm) gS (by omega);have x3:Ext h (h2.set lm (MO.dK (emb (dput D w (m+1))))):=x2.setN b.1;generalize h2.set lm (MO.dK (emb (dput D w (m+1))))=h3 at uc ql v7 w8 x3;have et:oO [.ref ls] h3=.ok (sv S) h3:=by
  rw[C1];simp[oO,aL,w8]
 have q1:vIx (.ref lm) (.str w) h3=.ok (.int (m+1)) h3:=nZ uc (by rw[nY,if_pos rfl]);simp[nI ql,q1,et];refine Km c w (m+1) (by omega) (by omega) _ λkd act wa ak=>?_;have ap:=fE (p:=dP ⟨(w,m+1),S,kd,act⟩) ql (by rw[Pl];omega);rw[show ds.map dP++[dP ⟨(w,m+1),S,kd,act⟩]=(ds++[Dd.mk (w,m+1) S kd act]).map dP by simp]at ap;have uo:onL cK (.ref ld) [.tup [.tup [.str w,.int (m+1)],sv S,.tup act]] h3=_:=ap
 try simp
 rw[uo,oP];exact k _ _ ⟨dput D w (m+1),ds++[⟨(w,m+1),S,kd,act⟩],x3.setN (by omega),aK uc (by omega),bB ql,aK v7 (by omega),mi.step hw em rfl ((ak _ _).wf (by show S.length<=100;omega)) (ak _ _),_,_,_,_,_,rfl⟩
theorem kG{α β:Type}(f:α->β)(xs:List α)(lo hi:Option Int):bC (xs.map f) lo hi=(bC xs lo hi).map f:=by
 unfold bC;simp[List.map_take,List.map_drop]
theorem FO(ns:List Int)(hl:ns.length<=63):∃c:Int,∀(h:PH),∃l1 h1,lQ (.fl (ns.map PV.int)) (.ref h.length) (h++[MO.lst [PV.int 0]])=.ok (.ref l1) h1/\Ext h h1/\vIx (.ref l1) (.int 0) h1=.ok (.int c) h1:=by
 obtain⟨c,ec⟩:∃c:Int,atI (ns.map PV.int++[.int 0]) 0=some (.int c):=by
  cases ns with
  |nil=>exact⟨0,rfl⟩
  |cons n r=>exact⟨n,bQ (i:=0) (by simp)⟩
 refine⟨c,λh=>?_⟩;have e0:(h++[MO.lst [PV.int 0]])[h.length]?=some (.lst [PV.int 0]):=aF;have e1:=Di (xs:=ns.map PV.int) e0 (by simp;omega);exact⟨_,_,e1,(Ext.app _ _).trans (Ext.app _ _),by rw[kA aF,ec];rfl⟩
def BI(h:PH)(ns:List Int)(hs:List Str)(lh:Nat)(q:Nat)(δ:Ev)(h':PH):Prop:=∃D:Seen,Ext h h'/\h'[h.length]?=some (.dK (emb D))/\D.length<=q/\(∀w∈hs.take q,∃m,look D w=some m/\0<=m/\m<=1000000000)/\∃x3,δ=[some (.fl (ns.map PV.int)),some (.ref lh),some (.ref h.length),x3,none,none,none,none,none]
theorem FP(ns:List Int)(hl:ns.length<=63)(h0:PH)(Q:PV->PH->Prop)(k:∀hs D ds l h',Ext h0 h'->h'[l]?=some (.lst (ds.map dP))->MI hs D ds 40->Q (.ref l) h'):(xM [.fl (ns.map PV.int)] h0).W Q:=by
 obtain⟨c,fc⟩:=FO ns hl;refine cA ?_;unfold xK;rw[aD];obtain⟨l1,h1,e1,x1,v1⟩:=fc h0;simp[e1,v1];refine FM c h1 _ λhs lh h4 x2 qv l3 lj=>?_;have OM:=x1.trans x2;clear e1 v1;refine now ?_;rw[aD];simp;have gm:(h4++[MO.dK []])[h4.length]?=some (.dK (emb [])):=aF;have x5:Ext h4 (h4++[MO.dK []]):=Ext.app _ _;generalize h4++[MO.dK []]=h5 at gm x5;refine now ?_;rw[aD];refine fF (n:=lh) (xs:=hs.map PV.str) (h1:=h5) (BI h4 ns hs lh) (by simp) (x5 _ _ qv) ⟨[],x5,gm,Pk _,(λw hw=>nomatch hw),_,rfl⟩ (λq δ h' _ i=>let ⟨_,x,_⟩:=i;x _ _ qv) ?_ ?_
 ·rintro q y δ h' hy ⟨D,x,gm,lD,hm,x4,rfl⟩;rw[Pu]at hy;obtain⟨w,hw,rfl⟩:=PB.mp hy;have hq:q<hs.length:=(Pg.mp hw).1;refine⟨_,rfl,?_⟩;unfold pE;have gc:(h'++[MO.lst ((bC ns none (some 1)).map PV.int)])[h'.length]?=some (.lst ((bC ns none (some 1)).map PV.int)):=aF;have xc:Ext h' (h'++[MO.lst ((bC ns none (some 1)).map PV.int)]):=Ext.app _ _;simp(disch:=omega) [kG,nJ gc];generalize h'++[MO.lst ((bC ns none (some 1)).map PV.int)]=hc at xc;obtain⟨v,ev,v0,v1⟩:∃v:Int,(bC ns none (some 1)).sum/4%3/2*1000000000=v/\0<=v/\v<=1000000000:=⟨_,rfl,by omega,by omega⟩;rw[ev];have n0:=xc _ _ gm;have cy:eW (.ref h4.length) (.str w) (.int v) hc=some (hc.set h4.length (.dK (emb (dput D w v)))):=by
   rw[BW n0 (by unfold emb;rw[Pl];omega),BZ]
  refine⟨_,cy,dput D w v,(x.trans xc).setN (Pk _),bB n0,P6 C0 (by omega),λu hu=>?_,_,rfl⟩;rw[nY]
  by_cases z:u=w
  ·rw[if_pos z];exact⟨v,rfl,v0,v1⟩
  ·rw[if_neg z];rw[Qh,hw,PK]at hu;rcases hu with hu|hu
   ·exact hm u hu
   ·exact(z (by simpa using hu)).elim
 ·rintro δ h' ⟨D,x,gm,lD,hm,x4,rfl⟩;rw[Pl]at lD;rw[Pl,QK]at hm;refine now ?_;rw[aD];simp;have oh:Ext h' (h'++[MO.lst []]):=Ext.app _ _;have gd:(h'++[MO.lst []])[h'.length]?=some (.lst (([]:List Dd).map dP)):=aF;have hlm:=(Pg.mp gm).1;have xj:=oh _ _ gm;have wm:(h'++[MO.lst []]).length=h'.length+1:=by simp
  have xa:=x.trans oh;generalize h'++[MO.lst []]=h6 at oh gd xj wm xa;refine now ?_;rw[aD];have gc:(h6++[MO.lst ((bC ns none (some 40)).map PV.int)])[h6.length]?=some (.lst ((bC ns none (some 40)).map PV.int)):=aF;have x5:Ext h6 (h6++[MO.lst ((bC ns none (some 40)).map PV.int)]):=Ext.app _ _;have lc:(bC ns none (some 40)).length<=40:=by simp[bC,HT.sIx];omega
  have p0:DJ h4 ns hs (bC ns none (some 40)) lh h4.length h'.length h6.length 0 [some (.fl (ns.map PV.int)),some (.ref lh),some (.ref h4.length),x4,some (.ref h'.length),none,none,none,none] (h6++[MO.lst ((bC ns none (some 40)).map PV.int)]):=⟨D,[],xa.trans x5,x5 _ _ xj,x5 _ _ gd,gc,⟨λd hd=>(nomatch hd),λd hd=>(nomatch hd),λd hd=>(nomatch hd),.nil,Pk _,by omega,λw hw=>let ⟨m,a,b,c⟩:=hm w hw;⟨m,a,b,by omega⟩,λd hd=>(nomatch hd)⟩,_,_,_,_,_,rfl⟩;have qb:mSl (mV 0) nA (mP (mC (.int 40))) [some (.fl (ns.map PV.int)),some (.ref lh),some (.ref h4.length),x4,some (.ref h'.length),none,none,none,none] h6=.ok (.ref h6.length) (h6++[MO.lst ((bC ns none (some 40)).map PV.int)]):=by simp[kG]
  generalize h6++[MO.lst ((bC ns none (some 40)).map PV.int)]=h7 at gc p0 qb;generalize h6.length=l5 at gc p0 qb wm;generalize bC ns none (some 40)=cs at gc p0 qb lc;refine fF (n:=l5) (xs:=cs.map PV.int) (h1:=h7) (DJ h4 ns hs cs lh h4.length h'.length l5) qb gc p0 (λq δ h' _ i=>let ⟨_,_,_,_,_,g,_⟩:=i;g) ?_ ?_
  ·rintro q y δ h8 hy i;rw[Pu]at hy;obtain⟨c,hc,rfl⟩:=PB.mp hy;have hq:q<cs.length:=(Pg.mp hc).1;exact⟨_,rfl,Dr lj (by omega) qv l3 (by omega) i λ_ _ z=>z⟩
  ·rintro δ h8 ⟨D,ds,x6,gm,gd,gc,mi,y3,y5,y6,y7,y8,rfl⟩;rw[Pl]at mi;refine now ?_;simp;exact k hs D ds _ _ (OM.trans x6) gd ⟨mi.wf,mi.ac,mi.pos,mi.up,P6 mi.ld lc,P6 mi.lD (by omega),λw hw=>let ⟨m,a,b,c⟩:=mi.hm w hw;⟨m,a,b,by omega⟩,mi.dm⟩
def kyR(d:Dd):List Key:=[.inl (tot d.seen),.inr d.nm.1,.inl d.nm.2]
theorem C9(a b:Dd):aN (kyR a) (kyR b)=aN (kyL a) (kyL b):=by
 unfold kyR kyL aN;have e:(Sum.inl (1+tot a.seen):Key)=.inl (1+tot b.seen)↔(Sum.inl (tot a.seen):Key)=.inl (tot b.seen):=by
  simp
 by_cases c:(Sum.inl (tot a.seen):Key)=.inl (tot b.seen)
 ·rw[if_pos c,if_pos (e.mpr c)]
 ·rw[if_neg c,if_neg (λz=>c (e.mp z))];unfold keyLt;simp
theorem Kn(a b:Dd)(e:kyR a=kyR b):a.nm=b.nm:=by
 unfold kyR at e;simp at e;exact Prod.ext e.2.1 e.2.2
theorem HL(xs:List Dd):qO (xs.map kyR)=true:=by
 cases xs with
 |nil=>rfl
 |cons a r=>
  rw[Pv];unfold qO;rw[PF];refine⟨rfl,P3.mpr λz hz=>?_⟩;obtain⟨q,_,rfl⟩:=Pw.mp hz;rfl
theorem tO(d:Dd)(hS:d.seen.length<=100)(h:PH)(Q:PV->PH->Prop)(k:∀h',Ext h h'->Q (tP (kyR d)) h'):(cP [dP d] h).W Q:=by
 refine cA ?_;have hc:=vD (js:=[none,none]) (tg:=gTp 2 (gCn (gN 0) (gCn (gN 1) gNl))) (tst:=lH) (elt:=mV 1) (m:=aB vAt (mV 0) (mC (.int 1))) (δ:=[some (dP d)]) (h:=h) (h1:=h) (ys:=d.seen) (emb:=pv)
  (λq=>some (.int q.2)) (by simp[dP1,C1]) (by omega) (λq hq=>⟨[some (.str q.1),some (.int q.2)],by simp[fP,pv],λh3 _=>⟨rfl,by simp⟩⟩)
 have es:d.seen.filterMap (λq=>some (PV.int q.2))=(d.seen.map (·.2)).map PV.int:=by rw[filterMap_some,Qq];rfl
 rw[es]at hc;have gs:(h++[MO.lst ((d.seen.map (·.2)).map PV.int)])[h.length]?=some (.lst ((d.seen.map (·.2)).map PV.int)):=aF;have xs:Ext h (h++[MO.lst ((d.seen.map (·.2)).map PV.int)]):=Ext.app _ _;have vs:=nJ gs;generalize h.length=l at hc gs vs;generalize h++[MO.lst ((d.seen.map (·.2)).map PV.int)]=hA at hc gs xs vs;unfold sY;simp[hc,vs,dP0,pv0,pv1];exact k _ xs
theorem Ko{ds:List Dd}(rk:gH os)(nd:(os.map (·.nm)).Nodup){i:Nat}{d:Dd}(hd:(bY ds os)[i]?=some d)(t:Nm):
  mkP ((bY ds os).take i) t=true ↔ ∃e∈os,e.nm=t/\gX e=true/\(aX ds.reverse).tk e.nm=none/\aN (kyL e) (kyL d)=true:=by
 have rf:gH (bY ds os):=rk.sublist List.filter_sublist;have tm:((bY ds os).map (·.nm)).Nodup:=(List.filter_sublist.map _).nodup nd;have bf:=jT tm hd;have v9:bY ds os=(bY ds os).take i++d::(bY ds os).drop (i+1):=by rw[<-drop_cons hd,Q2]
 have md:d∈bY ds os:=PD hd;obtain⟨_,r2,r3⟩:=List.pairwise_append.mp (show((bY ds os).take i++d::(bY ds os).drop (i+1)).Pairwise (λa b=>aN (kyL b) (kyL a)=false) by rw[<-v9];exact rf);constructor
 ·intro h;obtain⟨e,he,z⟩:=SH.mp h;rw[PF]at z;have me:=RN he;obtain⟨m1,m2⟩:=Q3.mp me;refine⟨e,m1,of_decide_eq_true z.2,z.1,by simpa using m2,?_⟩
  cases c:aN (kyL e) (kyL d) with
  |true=>rfl
  |false=>
   have e1:=B7 e d (jB (a:=kyL e) (b:=kyL d) rfl c (r3 e he d Pm));exact(bf (Pw.mpr ⟨e,he,e1⟩)).elim
 ·rintro⟨e,he,rfl,em,ef,el⟩;have me:e∈bY ds os:=Q3.mpr ⟨he,by rw[ef];rfl⟩;rw[v9]at me;rcases PK.mp me with me|me
  ·exact SH.mpr ⟨e,me,by rw[em,decide_eq_true rfl];rfl⟩
  ·rcases PC.mp me with rfl|me
   ·rw[yV]at el;cases el
   ·rw[(P5.mp r2).1 e me]at el;cases el
theorem Ca:∀(a b:List Key),shape a=shape b->ltL (ltP 39) (a.map kP) (b.map kP)=some (aN a b)
 |[],[],_=>rfl
 |[],_::_,h=>by cases h
 |_::_,[],h=>by cases h
 |x::a,y::b,h=>by
  have h1:dO x=dO y:=(List.cons.inj h).1;have ih:=Ca a b (List.cons.inj h).2;rw[Pv,Pv];unfold ltL aN
  by_cases e:x=y
  ·rw[if_pos (by rw[e]),if_pos e,ih]
  ·have e2:¬ kP x=kP y:=λz=>e (by cases x <;> cases y <;> first|(cases z;rfl)|cases z)
   rw[if_neg e2,if_neg e];cases x <;> cases y <;> first|rfl|cases h1
theorem Kr(a b:Dd)(h:PH):jH (tP (kyR a)) (tP (kyR b)) h=.ok (.bl (aN (kyL a) (kyL b))) h:=by
 rw[<-C9];exact Ey rfl rfl (Ca (kyR a) (kyR b) rfl)
def mkB(ds:List Dd)(d:Dd)(t:Nm)(e:Dd):Bool:=(aN (kyL e) (kyL d)&&((aX ds.reverse).tk e.nm).isNone)&&(decide (e.nm=t)&&gX e)
def anyB(ds:List Dd)(d:Dd)(t:Nm)(os:List Dd):Bool:=os.any (mkB ds d t)
def pN(ds os:List Dd)(d:Dd):PV:=match(aX ds.reverse).tk d.nm with
 |some y=>Ad y
 |none=>match nX d with
  |some t=>if anyB ds d t os=true then jV else idV
  |none=>jV
theorem MR{d:Dd}(D:AcK d):∃w:Str,atI d.act 0=some (.str w)/\(gX d=decide (w="make"))/\(w="add" /\ (∃t,nX d=some t/\atI d.act 1=some (pv t))\/w≠"add" /\ nX d=none):=by
 cases D with
 |settle e ea=>exact⟨"settle",by rw[ea];exact bQ (i:=0) rfl,by unfold gX;rw[ea],.inr ⟨by decide +kernel,by unfold nX;rw[ea]⟩⟩
 |back f l e ea=>exact⟨"back",by rw[ea];exact bQ (i:=0) rfl,by unfold gX;rw[ea],.inr ⟨by decide +kernel,by unfold nX;rw[ea]⟩⟩
 |make z e ea=>exact⟨"make",by rw[ea];exact bQ (i:=0) rfl,by unfold gX;rw[ea],.inr ⟨by decide +kernel,by unfold nX;rw[ea]⟩⟩
 |add t v e ea=>exact⟨"add",by rw[ea];exact bQ (i:=0) rfl,by unfold gX;rw[ea],.inl ⟨rfl,t,by unfold nX;rw[ea];exact if_pos rfl,by rw[ea];exact bQ (i:=1) rfl⟩⟩
theorem Ks(p q:Nm)(h:PH):vEq (pv p) (pv q) h=.ok (.bl (decide (p=q))) h:=by
 rw[wN rfl rfl]
 congr 2
 rw[decide_eq_decide];exact⟨λz=>jR z,λz=>by rw[z]⟩
theorem Kt{ds:List Dd}(hs:∀d∈os,d.seen.length<=100)(ac:∀d∈os,AcK d)(g:h[n]?=some (.lst (os.map dP)))(t:Tb h l c λp=>((aX ds.reverse).tk p).map pv){d:Dd}(hd:d∈os)(k:∀h',Ext h h'->Q (pN ds os d) h'):(A4 [dP d,.ref n,.ref l] h).W Q:=by
 refine cA ?_;unfold F3;rw[aD];have v0:=t.has d.nm;rw[QY]at v0;unfold pN at k;rw[cG];cases ek:(aX ds.reverse).tk d.nm with
 |some y=>
  rw[ek]at v0 k;have v1:=t.at' (x:=d.nm) (v:=pv y) (by rw[ek];rfl);simp[dP0,v0,v1];exact k _ (Ext.refl _)
 |none=>
  rw[ek]at v0 k;simp[dP0,v0];refine now ?_;rw[aD,cG];obtain⟨w,i0,im,hw⟩:=MR (ac d hd);rcases hw with⟨rfl,th,ea,i1⟩|⟨hw,ea⟩
  ·have k:∀h',Ext h h'->Q (if anyB ds d th os=true then jV else idV) h':=by rw[ea]at k;exact k
   simp[dP2,i0];rw[aD];refine fF (n:=n) (xs:=os.map dP) (h1:=h) (λq δ h'=>Ext h h'/\anyB ds d th (os.take q)=false/\∃x3 x4,δ=[some (dP d),some (.ref n),some (.ref l),x3,x4]) (by simp) g ⟨Ext.refl _,rfl,_,_,rfl⟩ (λq δ h' _ i=>i.1 _ _ g) ?_ ?_
   ·rintro q y δ h' hy ⟨x,no,x3,x4,rfl⟩;rw[Pu]at hy;obtain⟨e,he,rfl⟩:=PB.mp hy;have me:e∈os:=PD he;have htk:os.take (q+1)=os.take q++[e]:=by rw[Qh,he];rfl
    have nx:mkB ds d th e=false->anyB ds d th (os.take (q+1))=false:=λz=>by unfold anyB at no⊢;rw[htk,List.any_append,no];simp[z]
    have yes:mkB ds d th e=true->anyB ds d th os=true:=λz=>SH.mpr ⟨e,me,z⟩;refine⟨_,rfl,?_⟩
    show(qZ [some (dP d),some (.ref n),some (.ref l),some (dP e),x4] h').W _
    unfold qZ;rw[aD,BA];obtain⟨v1,h1,e1,rfl,x1⟩:=lI (tO e (hs e me) h' (λv h1=>v=tP (kyR e)/\Ext h' h1) λh1 x1=>⟨rfl,x1⟩);obtain⟨v2,h2,e2,rfl,x2⟩:=lI (tO d (hs d hd) h1 (λv h2=>v=tP (kyR d)/\Ext h1 h2) λh2 x2=>⟨rfl,x2⟩);have xx:=x.trans (x1.trans x2);have c1:aO 1 cP (aA (mV 3) aC) [some (dP d),some (.ref n),some (.ref l),some (dP e),x4] h'=.ok (tP (kyR e)) h1:=by
     have hr:aA (mV 3) aC [some (dP d),some (.ref n),some (.ref l),some (dP e),x4] h'=.ok [dP e] h':=by simp
     rw[gK,hr,Rs.bind_ok,if_pos (show[dP e].length=1 from rfl),e1]
    have c2:aO 1 cP (aA (mV 0) aC) [some (dP d),some (.ref n),some (.ref l),some (dP e),x4] h1=.ok (tP (kyR d)) h2:=by
     have hr:aA (mV 0) aC [some (dP d),some (.ref n),some (.ref l),some (dP e),x4] h1=.ok [dP d] h1:=by simp
     rw[gK,hr,Rs.bind_ok,if_pos (show[dP d].length=1 from rfl),e2]
    have ls:=Kr e d h2;have vh:=(t.ext xx).hasNo e.nm;rw[QY]at vh;have et:qB (aB jH (aO 1 cP (aA (mV 3) aC)) (aO 1 cP (aA (mV 0) aC))) (aB bG (aB vAt (mV 3) (mC (.int 0))) (mV 2)) [some (dP d),some (.ref n),some (.ref l),some (dP e),x4] h'=.ok (.bl (aN (kyL e) (kyL d)&&((aX ds.reverse).tk e.nm).isNone)) h2:=by
     cases c0:aN (kyL e) (kyL d) with
     |true=>
      rw[c0]at ls;cases c3:(aX ds.reverse).tk e.nm with
      |none=>rw[c3]at vh;simp[-gK,c1,c2,ls,dP0,vh,bl2]
      |some z=>rw[c3]at vh;simp[-gK,c1,c2,ls,dP0,vh,bl2]
     |false=>rw[c0]at ls;simp[-gK,c1,c2,ls,bl2]
    rw[et,oP];refine now ?_;rw[cG];obtain⟨w',j0,jm,_⟩:=MR (ac e me);have e5:=Ks e.nm th h2;have em:mkB ds d th e=((aN (kyL e) (kyL d)&&((aX ds.reverse).tk e.nm).isNone)&&(decide (e.nm=th)&&decide (w'="make"))):=by rw[<-jm];rfl
    rw[em]at nx yes;generalize (aN (kyL e) (kyL d)&&((aX ds.reverse).tk e.nm).isNone)=b at nx yes
    by_cases c5:e.nm=th
    ·rw[decide_eq_true c5]at e5 nx yes;cases b with
     |false=>
      simp[dP0,dP2,i1,e5];exact⟨xx,nx rfl⟩
     |true=>
      by_cases c6:w'="make"
      ·rw[decide_eq_true c6]at yes;simp[dP0,dP2,i1,e5,j0,c6];have:=k h2 xx;rw[if_pos (yes rfl)]at this;exact this
      ·rw[decide_eq_false c6]at nx;simp[dP0,dP2,i1,e5,j0,c6];exact⟨xx,nx rfl⟩
    ·rw[decide_eq_false c5]at e5 nx;simp[dP0,dP2,i1,e5];exact⟨xx,nx (by simp)⟩
   ·rintro δ h' ⟨x,no,x3,x4,rfl⟩;rw[Pl,QK]at no;refine now ?_;simp;have:=k h' x;rw[no,if_neg Px]at this;exact this
  ·rw[ea]at k;simp[dP2,i0,hw];refine now ?_;simp;exact k _ (Ext.refl _)
variable{fv:Dd->PV}
theorem Ku{ds:List Dd}(rk:gH os)(nd:(os.map (·.nm)).Nodup)(f1:∀d∈os,∀y,(aX ds.reverse).tk d.nm=some y->fv d=Ad y)(f2:∀i d,(bY ds os)[i]?=some d->fv d=if idD ((bY ds os).take i) d=true then idV else jV){d:Dd}(hd:d∈os):pN ds os d=fv d:=by
 unfold pN;cases ek:(aX ds.reverse).tk d.nm with
 |some y=>exact(f1 d hd y ek).symm
 |none=>
  have md:d∈bY ds os:=Q3.mpr ⟨hd,by rw[ek];rfl⟩;obtain⟨i,hi⟩:=List.getElem?_of_mem md;rw[f2 i d hi];unfold idD;cases ea:nX d with
  |none=>rfl
  |some t=>
   show(if anyB ds d t os=true then jV else idV)=if(!mkP ((bY ds os).take i) t)=true then idV else jV
   have m:=Ko rk nd hi t;have e:anyB ds d t os=mkP ((bY ds os).take i) t:=by
    unfold anyB;rw[Rk,m,SH];constructor
    ·rintro⟨e,he,z⟩;unfold mkB at z;simp only[PF,decide_eq_true_eq,Option.isNone_iff_eq_none]at z;exact⟨e,he,z.2.1,z.2.2,z.1.2,z.1.1⟩
    ·rintro⟨e,he,z1,z2,z3,z4⟩;refine⟨e,he,?_⟩;unfold mkB;rw[z1]at z3;simp[z1,z2,z3,z4]
   rw[e];cases mkP ((bY ds os).take i) t <;> rfl
variable{elt:Me}{js:List (Option Nat)}{mi:Mi}
theorem HM{g:PH->Bool}(P:Nat->PV->Prop)(e:mi δ h=.ok ⟨xs,g⟩ h1)(hg:∀h,Ext h1 h->g h=true)(hz:xs.length<=16777216)(step:∀i x,xs[i]?=some x->∃δ1,tg x (fP js δ)=some δ1/\∀h,Ext h1 h->∀Q:PV->PH->Prop,(∀v h',Ext h h'->P i v->Q v h')->(elt δ1 h).W Q)(k:∀l h'(vs:List PV),Ext h1 h'->h1.length<=l->vs.length=xs.length->h'[l]?=some (.lst vs)->(∀i v,vs[i]?=some v->P i v)->Q (.ref l) h'):(cF js mi tg lH elt δ h).W Q:=by
 unfold cF;rw[e,Rs.bind_ok];refine wV (λi h'=>Ext h1 h'/\∃vs:List PV,vs.length=i/\h'[h1.length]?=some (.lst vs)/\∀i v,vs[i]?=some v->P i v) xs 0 _ ⟨Ext.app _ _,[],rfl,by simp,λi v hv=>by simp at hv⟩ (λi x h' _ hx hi=>?_) (λh' hi=>?_)
 ·obtain⟨x1,vs,lv,g1,ov⟩:=hi;have hx:xs[i]?=some x:=by simpa using hx
  have Pa:=(Pg.mp hx).1;obtain⟨δ1,ht,hs⟩:=step i x hx;refine⟨hg _ x1,δ1,ht,?_⟩;have hY:lH δ1 h'=.ok true h':=rfl;rw[hY,oP,if_pos rfl];refine hs h' x1 _ λv h2 x2 pv=>?_;refine⟨_,x2 _ _ g1,by omega,(x1.trans x2).setN (Pk _),vs++[v],by simp[lv],bB (x2 _ _ g1),λj w hw=>?_⟩;rcases Nat.lt_trichotomy j vs.length with z|z|z
  ·rw[Ql z]at hw;exact ov j w hw
  ·rw[z,QM (Pk _),Nat.sub_self]at hw;cases hw
   rw[z,lv];exact pv
  ·rw[QM (by omega)]at hw;have:=(Pg.mp hw).1;simp at this;omega
 ·obtain⟨x1,vs,lv,g1,ov⟩:=hi;rw[Nat.zero_add]at lv;exact⟨hg _ x1,k _ _ vs x1 (Pk _) lv g1 ov⟩
variable{a:Option Int}
theorem HN{α:Type}{xs:List α}{b:Option Int}{x:α}(h:x∈bC xs a b):x∈xs:=by
 unfold bC at h;exact List.mem_of_mem_drop (RN h)
theorem Kv{α:Type}{xs:List α}(h:m<=xs.length):bC xs none (some (m:Int))=xs.take m:=by
 unfold bC HT.sIx;simp;rw[SV h];rw[if_neg (by omega)];exact SV h
theorem FQ{α:Type}{xs:List α}(h:m<=xs.length):bC xs (some (m:Int)) none=xs.drop m:=by
 unfold bC HT.sIx;simp;rw[SV h,List.take_of_length_le (by rw[SD];omega)];rw[if_neg (by omega)]
theorem HP{α:Type}{xs:List α}{i j:Nat}(h0:i<=xs.length)(h1:i<=j):bC xs (some (i:Int)) (some (j:Int))=(xs.drop i).take (j-i):=by
 unfold bC;rw[BK (Int.natCast_nonneg i),BK (Int.natCast_nonneg j),Rf,Rf,SV h0,List.take_eq_take_iff,SD];rcases Nat.le_total j xs.length with h|h
 ·rw[SV h]
 ·rw[Nat.min_eq_right h,Nat.min_self,Nat.min_eq_right (Nat.sub_le_sub_right h i)]
theorem MS(S:Seen):(sv S).pl 38=true:=by
 rw[C1]
 show(S.map _).all (PV.pl 37)=true
 rw[P3];intro y hy;obtain⟨t,_,rfl⟩:=Pw.mp hy;rfl
theorem Kw{ds:List Dd}(h:∀d∈ds,d.act.all (PV.pl 37)=true):(ds.map dP).all (PV.pl 39)=true:=by
 rw[P3];intro y hy;obtain⟨d,hd,rfl⟩:=Pw.mp hy;have h1:(PV.tup d.act).pl 38=true:=h d hd;have h2:(pv d.nm).pl 38=true:=rfl
 show[pv d.nm,sv d.seen,.tup d.act].all (PV.pl 38)=true
 simp[h1,h2,MS]
theorem FT(e:h[n]?=some (.lst xs)):nD [.ref n] h=.ok (.ref h.length) (h++[.lst xs]):=by simp[nD,aL,e]
theorem Kx(ds os:List Dd)(d:Dd):(PV.tup [pv d.nm,pN ds os d]).pl 39=true:=by
 have h2:(pN ds os d).pl 38=true:=by
  unfold pN;split
  ·rfl
  ·split
   ·split <;> rfl
   ·rfl
 have h3:(pv d.nm).pl 38=true:=rfl
 show[pv d.nm,pN ds os d].all (PV.pl 38)=true
 simp[h2,h3]
theorem Ky{ds:List Dd}(hs:∀d∈os,d.seen.length<=100)(ac:∀d∈os,AcK d)(g:h[n]?=some (.lst (os.map dP)))(t:Tb h l c λp=>((aX ds.reverse).tk p).map pv){d:Dd}(hd:d∈os)(k:∀h',Ext h h'->Q (.tup [pv d.nm,pN ds os d]) h'):(bZ (aA (aB vAt (mV 0) (mC (.int 0))) (aA (aO 3 A4 (aA (mV 0) (aA (mV 1) (aA (mV 2) aC)))) aC)) [some (dP d),some (.ref n),some (.ref l)] h).W Q:=by
 obtain⟨v,h1,e1,rfl,x1⟩:=lI (Kt hs ac g t hd (Q:=λv h'=>v=pN ds os d/\Ext h h') λh' x=>⟨rfl,x⟩);have a1:aB vAt (mV 0) (mC (.int 0)) [some (dP d),some (.ref n),some (.ref l)] h=.ok (pv d.nm) h:=by simp[dP0]
 have a2:aO 3 A4 (aA (mV 0) (aA (mV 1) (aA (mV 2) aC))) [some (dP d),some (.ref n),some (.ref l)] h=.ok (pN ds os d) h1:=by
  have hr:aA (mV 0) (aA (mV 1) (aA (mV 2) aC)) [some (dP d),some (.ref n),some (.ref l)] h=.ok [dP d,.ref n,.ref l] h:=by simp
  rw[gK,hr,Rs.bind_ok,if_pos (show[dP d,.ref n,.ref l].length=3 from rfl),e1]
 rw[GP,sG,a1,Rs.bind_ok,sG,a2,Rs.bind_ok,BB,Rs.bind_ok,Rs.bind_ok,Rs.bind_ok,if_pos (by simp),oP];exact k _ x1
theorem main(ns:List Int)(hl:ns.length<=63):∃h,F5 [.fl (ns.map PV.int)] []=.ok (.bl true) h:=by
 have w:(F5 [.fl (ns.map PV.int)] []).W λp _=>p=.bl true:=by
  refine cA ?_;unfold F4;rw[aD];simp;refine FP ns hl _ _ λhs D ds l1 h1 x1 g1 mi=>?_;have ld:=mi.ld;refine now ?_;rw[aD];simp;refine Fs mi.wf ld mi.nd mi.down g1 _ λlb cb hb xb _ tb=>?_;have gb:=xb _ _ g1;refine now ?_;rw[aD];have gc:(hb++[MO.lst ((bC ns (some (-1)) none).map PV.int)])[hb.length]?=some (.lst ((bC ns (some (-1)) none).map PV.int)):=aF;have x2:Ext hb (hb++[MO.lst ((bC ns (some (-1)) none).map PV.int)]):=Ext.app _ _;have ll:=Et (x2 _ _ gb);rw[Pl]at ll;simp(disch:=omega) [kG,nJ gc,ll];have g2:=x2 _ _ gb;have vm:=tb.ext x2;generalize hb++[MO.lst ((bC ns (some (-1)) none).map PV.int)]=h2 at g2 vm;obtain⟨m,em⟩:∃m:Nat,(bC ns (some (-1)) none).sum%(ds.length+1)=(m:Int):=⟨((bC ns (some (-1)) none).sum%(ds.length+1)).toNat,by
   have:=Int.emod_nonneg ((bC ns (some (-1)) none).sum) (b:=(ds.length:Int)+1) (by omega);omega⟩
  have hm:m<=ds.length:=by
   have:=Int.emod_lt_of_pos ((bC ns (some (-1)) none).sum) (b:=(ds.length:Int)+1) (by omega);omega
  rw[em];refine now ?_;rw[aD];have s1:=wU (lo:=some (m:Int)) (hi:=none) g2;rw[kG,FQ hm]at s1;have y1:Ext h2 (h2++[MO.lst ((ds.drop m).map dP)]):=Ext.app _ _;have k1:(h2++[MO.lst ((ds.drop m).map dP)])[h2.length]?=some (.lst ((ds.drop m).map dP)):=aF;generalize h2.length=p1 at s1 k1;generalize h2++[MO.lst ((ds.drop m).map dP)]=h3 at s1 y1 k1;have s2:=wU (lo:=none) (hi:=some (m:Int)) (y1 _ _ g2);rw[kG,Kv hm]at s2;have y2:Ext h3 (h3++[MO.lst ((ds.take m).map dP)]):=Ext.app _ _;have k2:(h3++[MO.lst ((ds.take m).map dP)])[h3.length]?=some (.lst ((ds.take m).map dP)):=aF;generalize h3.length=p2 at s2 k2;generalize h3++[MO.lst ((ds.take m).map dP)]=h4 at s2 y2 k2;have s3:=vL (y2 _ _ k1) k2 (by simp;omega);rw[<-PZ]at s3;have i7:∀d,d∈ds.drop m++ds.take m↔d∈ds:=λd=>by rw[PK,or_comm,<-PK,Q2]
  have l3:(ds.drop m++ds.take m).length=ds.length:=by rw[QB,SD,Q9];omega
  generalize ds.drop m++ds.take m=hA at s3 i7 l3;have y3:Ext h4 (h4++[MO.lst (hA.map dP)]):=Ext.app _ _;have k3:(h4++[MO.lst (hA.map dP)])[h4.length]?=some (.lst (hA.map dP)):=aF;generalize h4.length=p3 at s3 k3;generalize h4++[MO.lst (hA.map dP)]=h5 at s3 y3 k3;have s4:=wU (lo:=some ((m:Int)/2)) (hi:=some (m:Int)) (y3 _ _ (y2 _ _ (y1 _ _ g2)));rw[kG]at s4;have c4:(bC ds (some ((m:Int)/2)) (some (m:Int))).length<=m-m/2:=by
   have:=HP (xs:=ds) (i:=m/2) (j:=m) (by omega) (by omega);rw[show((m:Int)/2)=((m/2:Nat):Int) from rfl,this,Q9]
   omega
  have jy:∀d,d∈bC ds (some ((m:Int)/2)) (some (m:Int))->d∈ds:=λd=>HN;generalize bC ds (some ((m:Int)/2)) (some (m:Int))=hB at s4 c4 jy;have y4:Ext h5 (h5++[MO.lst (hB.map dP)]):=Ext.app _ _;have k4:(h5++[MO.lst (hB.map dP)])[h5.length]?=some (.lst (hB.map dP)):=aF;generalize h5.length=p4 at s4 k4;generalize h5++[MO.lst (hB.map dP)]=h6 at s4 y4 k4;have s5:=vL (y4 _ _ k3) k4 (by simp;omega);rw[<-PZ]at s5;have y5:Ext h6 (h6++[MO.lst ((hA++hB).map dP)]):=Ext.app _ _;have k5:(h6++[MO.lst ((hA++hB).map dP)])[h6.length]?=some (.lst ((hA++hB).map dP)):=aF;have mem:∀d,d∈hA++hB↔d∈ds:=λd=>by rw[PK];exact⟨λz=>z.elim (i7 d).mp (jy d),λz=>.inl ((i7 d).mpr z)⟩
  have lC:(hA++hB).length<=63:=by rw[QB];omega
  generalize hA++hB=hC at s5 y5 k5 mem lC;generalize h6.length=p5 at s5 k5;generalize h6++[MO.lst (hC.map dP)]=h7 at s5 y5 k5;have yy:=y1.trans (y2.trans (y3.trans (y4.trans y5)));have gd:=yy _ _ g2;have zg:=vm.ext yy;simp(disch:=omega) [s1,s2,s3,s4,s5];clear s1 s2 s3 s4 s5 y1 y2 y3 y4 y5 k1 k2 k3 k4 c4 i7 jy l3 hm yy;refine now ?_;rw[aD];simp[FT k5];have y6:Ext h7 (h7++[MO.lst (hC.map dP)]):=Ext.app _ _;have k6:(h7++[MO.lst (hC.map dP)])[h7.length]?=some (.lst (hC.map dP)):=aF;generalize h7.length=p6 at k6;generalize h7++[MO.lst (hC.map dP)]=h8 at y6 k6;have yx:=y6 _ _ gd;have vz:=y6 _ _ k5;have yb:=zg.ext y6;refine now ?_;rw[aD];simp;have hu:∀d∈hC,∀e∈hC,d.nm=e.nm->d=e:=λd hd e he z=>xY mi.nd ((mem d).mp hd) ((mem e).mp he) z;refine FK mi.wf mi.ac mi.rt mi.down lC ld mem hu vz _ λos fv l9 h9 x9 nd mm rk g9 f1 f2=>?_;refine now ?_;rw[aD];have OZ:=x9 _ _ yx;obtain⟨v,h10,ye,bj,yi,rfl,vo,rm,pm,br⟩:=lI (xB (f:=cP) (b:=false) (x:=.ref l1) (h:=h9) (key:=kyR) (emb:=dP) (xs:=ds) (S:=shape [.inl 0,.inr "",.inl 0]) (Q:=λv h'=>∃os l,v=.ref l/\Ext h9 h'/\h'[l]?=some (.lst (os.map dP))/\os.Perm ds/\os.Pairwise (λa b=>aN (kyR b) (kyR a)=false)) (sP OZ) (by omega) (HL ds) (λ_ _=>rfl) (tH kyR Kn mi.nd) (λd hd h Q kk=>tO d (mi.wf d hd).len h Q kk) λos h' x p ho=>⟨os,_,rfl,x.trans (Ext.app _ _),aF,p,ho⟩);have eo:bj=os:=Ac (br.imp λ{a b} z=>by rw[<-C9];exact z) rk ((pm.map _).nodup_iff.mpr mi.nd) nd λd=>by rw[pm.mem_iff,mm]
  subst eo;simp[ye];refine now ?_;rw[aD];have xl:=(yb.ext x9).ext vo;have lo:bj.length<=40:=by rw[pm.length_eq];exact ld
  have so:∀d∈bj,d.seen.length<=100:=λd hd=>(mi.wf d ((mm d).mp hd)).len;have ao:∀d∈bj,AcK d:=λd hd=>mi.ac d ((mm d).mp hd);rw[BA];refine HM (λi v=>∀d,bj[i]?=some d->v=.tup [pv d.nm,pN ds bj d]) (zD (by simp) rm) (zE rm) (by rw[Pl];omega) (λi x hx=>?_) λl11 h11 vs zc b11 lv Pc qt=>?_
  ·rw[Pu]at hx;obtain⟨d,hd,rfl⟩:=PB.mp hx;refine⟨[some (dP d),some (.ref yi),some (.ref lb)],by simp[fP],λh xh Q kk=>?_⟩;exact Ky so ao (xh _ _ rm) (xl.ext xh) (PD hd) λh' x'=>kk _ _ x' λe z=>by rw[hd]at z;cases z;rfl
  ·rw[Pl]at lv;refine now ?_;have ev:vs=bj.map λd=>.tup [pv d.nm,pN ds bj d]:=by
    apply Rt;intro i;rw[Pu]
    by_cases hi:i<bj.length
    ·have e1:bj[i]?=some bj[i]:=Rl hi;have e2:vs[i]?=some vs[i]:=Rl (by omega);rw[e2,qt i _ e2 _ e1,e1];rfl
    ·rw[RI (by omega),RI (by omega)];rfl
   have ef:(bj.map λd=>PV.tup [pv d.nm,fv d])=vs:=by
    rw[ev];apply QI;intro d hd;rw[Ku rk nd f1 f2 hd]
   have pl:vs.all (PV.pl 39)=true:=by
    rw[ev,P3];intro y hy;obtain⟨d,_,rfl⟩:=Pw.mp hy;exact Kx ds bj d
   rw[ef]at g9;have xx:=vo.trans zc;have wc:=xx _ _ g9;have i1:uA [.ref l9,.ty "list"] h11=.ok (.bl true) h11:=by rw[Eu wc];rfl
   have e1:=BG wc Pc pl pl;rw[decide_eq_true rfl]at e1;have hp:(hC.map dP).all (PV.pl 39)=true:=Kw λd hd=>(mi.wf d ((mem d).mp hd)).pl;have e2:=BG ((x9.trans xx) _ _ vz) ((x9.trans xx) _ _ k6) hp hp;rw[decide_eq_true rfl]at e2;simp[i1,e1,e2,bl2]
 obtain⟨p,h,e,rfl⟩:=lI w;exact⟨h,e⟩
end K71
namespace K71
open PySem L2
def top(i:Nat):Stmt:=PySem.Challenge.pw_copymeet_k71_taken_back_or_not.main.body.getD i (.Pass ⟨0,0,0,0⟩)
abbrev bsL:List Str:=["range","sorted","max","sum","tuple","reversed","list","str","isinstance","len"]
abbrev cC(w:World)(K:Pi)(cl:Str->Option Addr):MC:=⟨K,cl,bsL,λ_ _ _=>False,w⟩
abbrev clF(bu cm ay ax:Addr):Str->Option Addr:=λz=>if z=("Count" : Str) then some bu else if z=("Tree" : Str) then some cm else if z=("Folding" : Str) then some ay else if z=("Undoing" : Str) then some ax else none
theorem clI{p:Addr->Prop}{bu cm ay ax a:Addr}{c:Str}(hc:clF bu cm ay ax c=some a)(ja:p bu)(kn:p cm)(fb:p ay)(fe:p ax):p a:=by
 dsimp only[clF]at hc;split at hc
 ·cases hc
  exact ja
 split at hc
 ·cases hc
  exact kn
 split at hc
 ·cases hc
  exact fb
 split at hc
 ·cases hc
  exact fe
 cases hc
abbrev fL:List Str:=["failed","leaves","made","numbers","placers","signs_left","total","tree","undone","writers"]
def NfX(K:Pi)(A:Addr):List Str->Prop
 |[]=>True
 |f::r=>Qo K (.ref A) f=some none/\NfX K A r
theorem NfX.at{K:Pi}{A:Addr}{f:Str}:∀{l:List Str},NfX K A l->f∈l->Qo K (.ref A) f=some none
 |_::_,h,.head _=>h.1
 |_::_,h,.tail _ m=>NfX.at h.2 m
theorem anE{a b c:Prop}(h:a/\b)(f:a->b->c):c:=f h.1 h.2
def tgN:Expr->List Str
 |.Name x _=>[x]
 |.Tuple es _ _=>es.flatMap λe=>match e with
  |.Name x _=>[x]
  |.Tuple gs _ _=>gs.flatMap λe=>match e with
   |.Name x _=>[x]
   |_=>[]
  |_=>[]
 |_=>[]
def mkN(o:List Str):List (Option Nat)->List Str->List Str
 |some j::r,xs=>o.getD j "" :: mkN o r xs
 |none::r,x::xs=>x::mkN o r xs
 |_,_=>[]
def ndB:List Str->Bool
 |[]=>true
 |x::r=>r.all (λy=>!decide (x=y))&&ndB r
theorem jW:∀{l:List Str},ndB l=true->l.Nodup
 |[],_=>.nil
 |x::r,h=>by
  simp only[ndB,PF,P3]at h;exact Rw.2 ⟨λm=>by simpa using h.1 x m,jW h.2⟩
section
variable{C:MC}{k i:Nat}{X:Cx}{elt iter tg:Expr}{ifs:List Expr}{sc os:Scope}{pos pos' cx:Pos}{oN:List Str}{js:List (Option Nat)}{mi:Mi}{g:Mg}{tt:Ev->PH->Rs Bool}{me:Me}{x:Str}
theorem Of(e:X.env.scope=os)(e':X.N=oN)(h:hV os oN sc (mkN oN js (tgN tg)) js=true)(nd:ndB (mkN oN js (tgN tg))=true)(hi:SI C k X tg iter mi)
  (hg:∀a b c d,(X.comp sc (mkN oN js (tgN tg)) a b c d).N.Nodup->SG C k (X.comp sc (mkN oN js (tgN tg)) a b c d) tg g/\STs C k (X.comp sc (mkN oN js (tgN tg)) a b c d) ifs tt/\SE C k (X.comp sc (mkN oN js (tgN tg)) a b c d) elt me)
  (hs:∀x,QU iter X.env x=pure x:=by intro _;rfl):SE C k X (.ListComp elt [⟨tg,iter,ifs,0⟩] sc pos) (cF js mi g tt me):=JK e e' h hi (λa b c d=>(hg a b c d (jW nd)).1) (λa b c d=>(hg a b c d (jW nd)).2.1) (λa b c d=>(hg a b c d (jW nd)).2.2) hs
theorem Og(nd:X.N.Nodup)(h1:X.N[i]?=some x)(h2:X.env.scope.names.lookup x=some .local)(e:X.env.scope=os)(e':X.N=oN)(h:hV os oN sc (mkN oN js (tgN tg)) js=true)(ue:ndB (mkN oN js (tgN tg))=true)(hi:SI C k X tg iter mi)
  (hg:∀a b c d,(X.comp sc (mkN oN js (tgN tg)) a b c d).N.Nodup->SG C k (X.comp sc (mkN oN js (tgN tg)) a b c d) tg g/\STs C k (X.comp sc (mkN oN js (tgN tg)) a b c d) ifs tt/\SE C k (X.comp sc (mkN oN js (tgN tg)) a b c d) elt me)
  (o6:SS (.ListComp elt [⟨tg,iter,ifs,0⟩] sc pos) (some (.Name x pos')) cx.line X.env=pure true:=by rfl) (hs:∀x,QU iter X.env x=pure x:=by intro _;rfl):SSt C k X (.Assign [.Name x pos'] (.ListComp elt [⟨tg,iter,ifs,0⟩] sc pos) cx) (aS i (cF js mi g tt me)):=CY nd h1 h2 e e' h hi (λa b c d=>(hg a b c d (jW ue)).1) (λa b c d=>(hg a b c d (jW ue)).2.1) (λa b c d=>(hg a b c d (jW ue)).2.2) o6 hs
end
def fsB(N:List Str)(n:Nat)(sc:Scope):Bool:=(match sc.kind with|.function=>true|_=>false) && !sc.isCoroutine && !sc.isGenerator&&ndB N&&decide (n<=N.length)&&(N.take n).all (λx=>match sc.names.lookup x with|some .local=>true|some .cell=>true|_=>false)&&sc.names.all λy=>match y.2 with|.free=>false|_=>true
theorem FU{N:List Str}{n:Nat}{sc:Scope}(h:fsB N n sc=true):mJ N (N.take n) sc/\(N.take n).length=n:=by
 simp only[fsB,PF,Bool.not_eq_true',P3,decide_eq_true_eq]at h;obtain⟨⟨⟨⟨⟨⟨h1,h2⟩,h3⟩,h4⟩,h5⟩,h6⟩,h7⟩:=h;have hl:(N.take n).length=n:=by rw[Q9];omega
 refine⟨⟨?_,h2,h3,jW h4,by rw[hl],λx m=>?_,λy m e=>?_⟩,hl⟩
 ·split at h1
  ·assumption
  ·cases h1
 ·have:=h6 x m;split at this
  ·exact .inl (by assumption)
  ·exact .inr (by assumption)
  ·cases this
 ·have:=h7 y m;rw[e]at this;cases this
def FnX(K:Pi)(f:Addr)(nm qual:Str)(st:Stmt):Prop:=∃oc kV doc pm cdv ct od an osl,K.lookup f=some ⟨oc,od,.func (Ra nm qual (dN st) (bP st) (aM st) .none kV doc pm an cdv ct),osl⟩/\SX K cdv qual=true/\Rh K (.ref f)=true
def MtX(K:Pi)(A:Addr)(nm qual:Str)(st:Stmt):Prop:=∃f,Qo K (.ref A) nm=some (some (.ref f))/\PySem.W.isFn K (.ref f)=true/\FnX K f nm qual st
def DfX(K:Pi)(nm:Str)(st:Stmt):Prop:=∃f,SY K Qz nm=some (some (.ref f))/\FnX K f nm nm st
def DsL(K:Pi):List (Str×Nat)->Prop
 |[]=>True
 |(x,i)::r=>DfX K x (top i)/\DsL K r
def fA(K:Pi)(x:Str):Addr:=match SY K Qz x with
 |some (some (.ref f))=>f
 |_=>0
def mA(K:Pi)(A:Addr)(x:Str):Addr:=match Qo K (.ref A) x with
 |some (some (.ref f))=>f
 |_=>0
def dA(K:Pi)(a:Addr):Rc:=match K.lookup a with
 |some ⟨_,_,.func f,_⟩=>f
 |_=>Ra "" "" (dN (top 0)) [] (aM (top 0)) .none .none .none .none none .none .none
theorem DsL.at{K:Pi}{x:Str}{i:Nat}:∀{l:List (Str×Nat)},DsL K l->(x,i)∈l->DfX K x (top i)
 |_::_,h,.head _=>h.1
 |_::_,h,.tail _ m=>DsL.at h.2 m
abbrev BdX(nm qual:Str)(st:Stmt)(n:Nat)(ps:List Str):Prop:=∀(kV doc pm:Value)(an:Option Addr)(cdv ct:Value)(us:List Value),us.length=n->bindArgs (Ra nm qual (dN st) (bP st) (aM st) .none kV doc pm an cdv ct) ⟨us,[]⟩=pure (ps.zip us)
structure ClX(K:Pi)(A:Addr)(nm:Str)(fs:List Str):Prop where
 n:SY K Qz nm=some (some (.ref A))
 pg:SC K A Str.empty=true
 hd:PySem.W.hasDictIn K A=true
 po:PySem.W.plainOver K A=true
 sa:Qo K (.ref A) "__setattr__" = some (some (.builtin "object.__setattr__"))
 mx:PySem.W.makesIn K A=true
 kc:Rh K (.ref A)=true
 nf:NfX K A fs
theorem ClX.cls9{K:Pi}{A:Addr}{nm:Str}{fs:List Str}(q:ClX K A nm fs):Cls K A:=⟨q.pg,q.hd,q.po,q.sa⟩
structure ClZ(w:World)(K:Pi)(mg:Str->Option Value)(cl:Str->Option Addr)(c:Str)(A:Addr):Prop where
 cl:cl c=some A
 hc:Cls K A
 mg:mg c=some (.ref A)
 mx:PySem.W.makesIn K A=true
 kc:Rh K (.ref A)=true
theorem mtN{C:MC}{k:Nat}{X:Cx}{m c:Str}{n j:Nat}{a g:Addr}{fd:Rc}{ps:List Str}{f:Fn}{tb:Str->Option Fn}(h:(C.cl c=some a/\Cls C.K a)/\Cn C.K a m g/\bV X.prog X.w C.K X.mg X.base CX0 j g fd ps (spM C (n+1) f)/\Binds C.K fd ps [])(h6:j<=k)(r:zW C X k m n tb):zW C X k m n (λz=>if z=c then some f else tb z):=Hb h.1.1 h.1.2 h.2.1 h6 h.2.2.1 h.2.2.2 r
def MsL(K:Pi)(A:Addr):List (Str×Str×Nat×Nat)->Prop
 |[]=>True
 |(x,q,i,j)::r=>MtX K A x q (inClass (top i) j)/\MsL K A r
abbrev dL:List (Str×Nat):=[("_law_drawn",46),("_law_hands",47),("_law_act",48),("_law_deeds",49),("_law_taken",51),("_law_backs",52),("empty",40),("place_of",21),("stand_of",36),("leaf_of",32),("kind_for",33),("fates_in_force",43),("stamp",4),("rank",5),("in_order",6),("name_of",8),("taker_of",9),("takers",10),("in_force",12),("taken_by",11),("fates",44),("_law_rank",50),("_law_due",53),("law",54)]
abbrev Cb:List (Str×Str×Nat×Nat):=[("__init__","Count.__init__",15,0),("hear","Count.hear",15,1)]
abbrev FV:List (Str×Str×Nat×Nat):=[("__init__","Tree.__init__",35,0),("fill","Tree.fill",35,12),("hear","Tree.hear",35,1),("hear_make","Tree.hear_make",35,2),("kind_of","Tree.kind_of",35,6),("takes","Tree.takes",35,4)]
abbrev vS:List (Str×Str×Nat×Nat):=[("__init__","Folding.__init__",39,0),("add_leaf","Folding.add_leaf",39,1),("hear","Folding.hear",39,2),("hear_tree","Folding.hear_tree",39,3)]
abbrev vT:List (Str×Str×Nat×Nat):=[("__init__","Undoing.__init__",42,0),("hear","Undoing.hear",42,1)]
section
variable{P:Program}{w:World}{K:Pi}{mg:Str->Option Value}{base:Heap}{cl:Str->Option Addr}
variable(P w K mg base cl)
abbrev tC(j:Nat)(x:Str)(t:Nat)(N:List Str)(n:Nat)(m:Fn):Prop:=Def K mg x (top t) (fA K x) (dA K (fA K x)) (N.take n)/\bV P w K mg base CX0 j (fA K x) (dA K (fA K x)) (N.take n) (spM (cC w K cl) n m)
abbrev tM(c:Str)(A:Addr)(j:Nat)(x:Str)(N:List Str)(n:Nat)(m:Fn):Prop:=(cl c=some A/\Cls K A)/\Cn K A x (mA K A x)/\bV P w K mg base CX0 j (mA K A x) (dA K (mA K A x)) (N.take n) (spM (cC w K cl) n m)/\Binds K (dA K (mA K A x)) (N.take n) []
abbrev tI(c:Str)(A:Addr)(j:Nat)(N:List Str)(n:Nat)(m:Fn):Prop:=cl c=some A/\Mk K A (mA K A "__init__")/\bV P w K mg base CX0 j (mA K A "__init__") (dA K (mA K A "__init__")) (N.take n) (spM (cC w K cl) n m)/\mg c=some (.ref A)/\Binds K (dA K (mA K A "__init__")) (N.take n) []
variable{P w K mg base cl}
theorem mbL{x:Str}(h:x∈bsL:=by decide +kernel):x∈(cC w K cl).bs:=h
structure ZZ(P:Program)(base:Heap)(w:World)(K:Pi)(mg:Str->Option Value)(cl:Str->Option Addr)(A_Count A_Tree A_Folding A_Undoing bS jX:Addr):Prop where
 hbn:∀x∈bsL,mg x=none
 XG:∃h:Heap,K.In h/\h.Ns Qz mg
 ds:DsL K dL
 z_Count:ClZ w K mg cl "Count" A_Count
 m_Count:MsL K A_Count Cb
 z_Tree:ClZ w K mg cl "Tree" A_Tree
 m_Tree:MsL K A_Tree FV
 z_Folding:ClZ w K mg cl "Folding" A_Folding
 m_Folding:MsL K A_Folding vS
 z_Undoing:ClZ w K mg cl "Undoing" A_Undoing
 m_Undoing:MsL K A_Undoing vT
 MG_KIND_FOR:mg "KIND_FOR" = some (.ref bS)
 GT_KIND_FOR:MK (cC w K cl) bS [("add","count"),("choose","choice"),("put","bag"),("take","bag"),("write","text"),("cut","text"),("mark","text"),("clear","text")]
 MG_ROOT:mg "ROOT" = some (.ref jX)
 GT_ROOT:MF K jX [.str "",.int (0)]
 ff:∀f∈fL,Da (cC w K cl) f
variable{A_Count A_Tree A_Folding A_Undoing bS jX:Addr}(Z:ZZ P base w K mg cl A_Count A_Tree A_Folding A_Undoing bS jX)
include Z
theorem dfM{k t:Nat}{x:Str}{N:List Str}{n:Nat}{body:Ms}(c:fsB N n (aM (top t))=true)(b:BdX x x (top t) n (N.take n))(d:(x,t)∈dL)
  (h:∀f cdv A outer s H E,N.Nodup->SSs (cC w K cl) k (tV CX0 P w K mg base N x (aM (top t)) f cdv A outer s H E).nox (bP (top t)) body):tC P w K mg base cl (k+1) x t N n (mFn N.length body):=by
 obtain⟨f,a,_,_,_,_,_,_,_,_,_,l,o,p⟩:=Z.ds.at d;obtain⟨_,X,G⟩:=Z.XG;obtain⟨S,e⟩:=FU c;have D:=Def.mk' X G a l o p (ps:=N.take n) (by rwa[e]);have F:=Ij (C:=cC w K cl) (P:=P) (mg:=mg) (base:=base) (λ_ _ _ h=>h) Z.hbn D.fn S λcdv A outer s H E=>h f cdv A outer s H E S.nd;rw[e]at F;have q:fA K x=f:=by rw[fA,a]
 rw[tC,q,dA,l];exact⟨D,F⟩
theorem fdL{f:Str}(h:f∈fL:=by decide +kernel):Da (cC w K cl) f:=Z.ff f h
theorem mtM{k n:Nat}{A:Addr}{c x q:Str}{st:Stmt}{N:List Str}{body:Ms}(z:ClZ w K mg cl c A)(y:MtX K A x q st)(c':fsB N n (aM st)=true)(b:BdX x q st n (N.take n))
  (h:∀f cdv A outer s H E,N.Nodup->SSs (cC w K cl) k (tV CX0 P w K mg base N q (aM st) f cdv A outer s H E).nox (bP st) body):tM P w K mg base cl c A (k+1) x N n (mFn N.length body):=by
 obtain⟨f,a,i,_,_,_,_,_,_,_,_,_,l,o,p⟩:=y;have F:=Av (st:=st) l o p;obtain⟨S,e⟩:=FU c';have G:=Ij (C:=cC w K cl) (P:=P) (mg:=mg) (base:=base) (λ_ _ _ h=>h) Z.hbn F S λcdv A outer s H E=>h f cdv A outer s H E S.nd;rw[e]at G;have r:mA K A x=f:=by rw[mA,a]
 rw[tM,r,dA,l];exact⟨⟨z.cl,z.hc⟩,⟨a,i,p⟩,G,F.binds (ps:=N.take n) (by rwa[e])⟩
theorem mkM{k n:Nat}{A:Addr}{c q:Str}{st:Stmt}{N:List Str}{body:Ms}(z:ClZ w K mg cl c A)(y:MtX K A "__init__" q st)(c':fsB N n (aM st)=true)(b:BdX "__init__" q st n (N.take n))
  (h:∀f cdv A outer s H E,N.Nodup->SSs (cC w K cl) k (tV CX0 P w K mg base N q (aM st) f cdv A outer s H E).nox (bP st) body):tI P w K mg base cl c A (k+1) N n (mFn N.length body):=by
 obtain⟨_,m,a,b'⟩:=mtM Z z y c' b h;exact⟨z.cl,⟨z.mx,m.at_,m.fn,z.kc⟩,a,z.mg,b'⟩
local macro_rules|`(tactic|ac_rfl)=>`(tactic|repeat' first|((with_reducible show SSs _ _ _ [_] _);refine JF ?_)|exists (iT _ 0 _ aC),(anE (by ac_nf) λc r=>anE r λm r=>anE r λg r=>anE r λq b=>Hc c m g q b)|exists (iH _ Bool.false _),(anE (by ac_nf) λD G=>GY D G ?_ (hb:=mbL))|exists SSt,(aS _ (cF _ _ _ _ _)),(Og nd rfl rfl rfl rfl (by rfl) (by rfl) ?_ λ_ _ _ _ nd=>⟨?_,?_,?_⟩)|exists (mV _),(Lp _)|exists SA,(aA _ _),(Jz ?_ ?_)|exists (mC (PV.int _)),Lq|exists SA,aC,LM|exists SSs,(aG _ _),(GL ?_ ?_)|exists (aB vAt _ _),(Od ?_ ?_)|exists SG,(gN _),(JB nd)|((with_reducible show SE _ _ _ (.BinOp _ _ _ _) (aB _ _ _));refine Lu ?_ ?_ ?_)|exists (mC (PV.str _)),Ls|exists SSt,(aS _ _),(LW nd ?_)|exists ST,(aQ (aB _ _ _)),(LD ?_ ?_ ?_)|exists SGs,(gCn _ _),(JC ?_ ?_)|exists SSt,(bD _),(LZ ?_)|exists SSt,(bK _ _ _),(NX ?_ ?_ ?_)|exists (aO _ _ _),(anE (by ac_nf) λD G=>s_call D G ?_)|exists (bZ _),(LN ?_)|exists SSs,cQ,JD|exists OpS,vEq,NS|exists OpS,bT,JP|exists SSt,(cE _ _ _),(M1 ?_ ?_ ?_)|((with_reducible show SI _ _ _ _ _ (aU _));refine M0 ?_)|exists bM,GJ|exists OpS,iW,LA|exists SG,(gTp _ _),(LU ?_)|exists SGs,gNl,LR|exists SSt,(eO _ _ _),(K3 ?_ ?_ ?_)|exists SSt,(eN _ _ _),(ME (fdL Z) ?_ ?_)|exists (nB _),(LO ?_)|exists (fI _ _ _ _ _),(K1 ?_ ?_ ?_)|exists SSt,(lG _ _),(LX ?_ ?_)|exists (mUn (dW _) _),(MD (fdL Z) ?_)|exists SO,(mP _),(Jy ?_)|exists SSt,(nE _),(LY ?_)|exists (mSl _ _ _),(NV ?_ ?_ ?_)|exists SO,nA,Jx|exists OpS,wJ,Ly|exists OpS,iD,Mu|exists OpS,tZ,Lx|((with_reducible show ST _ _ _ (.BoolOp _ _ _) _);refine SW.t ?_)|exists SW,(jF _ _),(w_and ?_ ?_)|exists (cF _ _ _ _ _),(Of rfl rfl (by rfl) (by rfl) ?_ λ_ _ _ _ nd=>⟨?_,?_,?_⟩)|((with_reducible show SW _ _ _ (.BoolOp _ [_] _) _);refine Jv ?_)|exists OpS,vLe,NR|exists OpS,bG,EB|exists STs,lH,JI|((with_reducible show SE _ _ _ (.Compare _ _ _ _) (aB _ _ _));refine Lv ?_ ?_ ?_)|exists OpS,CP,Lz|exists (mMt isL (onL cK) _ _),(NY PySem.F.plainAttrs_list PySem.F.slot_list_append PySem.F.type_list_append Ep ?_ ?_)|exists (mCB wR _),(nC Mr PyProof.Rows.Boot.«sum» ?_ (hb:=mbL))|exists (mC PV.non),Lr|((with_reducible show SI _ _ _ _ _ (qD _));refine JH ?_ (hb:=mbL))|exists OpS,jH,JU|exists OpS,Eg,LB|exists OpS,vNe,NT|exists (mMt aV nM _ _),(Mv QL Qp PySem.F.type_dict_get Mw ?_ ?_)|exists (mIf _ _ _),(GI ?_ ?_ ?_)|exists (mCB uA _),(nC wM PyProof.Rows.Boot.«isinstance» ?_ (hb:=mbL))|exists (qB _ _),(LJ ?_ ?_)|exists (mUn _ _),(NO ?_ ?_)|exists UnS,CQ,M4|exists (mCB CV _),(nC LQ PyProof.Rows.Boot.«max» ?_ (hb:=mbL))|((with_reducible show SI _ _ _ _ _ (B4 _));refine MJ ?_ (hb:=mbL))|exists SSt,El,LV|exists ST,(aQ (AN _ _ _ _ _)),(LF ?_ ?_ ?_ ?_ ?_)|exists (mCB nD _),(sD JA PyProof.Rows.Boot.«list» ?_ (hb:=mbL))|exists (mC (PV.ty "str")),(Ed PyProof.Rows.Boot.«str» (hb:=mbL))|exists OpS,kZ,GH|((with_reducible show STs _ _ _ [_] _);refine JJ ?_)|((with_reducible show SE _ _ _ (.BoolOp _ [_] _) _);refine LI ?_)|((with_reducible show SI _ _ _ _ _ (vM _));refine MH ?_)|exists (mCB oU _),(nC GX PyProof.Rows.Boot.«sorted» ?_ (hb:=mbL))|exists OpS,D5,Mt|exists OpS,lQ,Hh|exists OpS,vGt,NQ|exists (mCB oO _),(sD GK PyProof.Rows.Boot.«tuple» ?_ (hb:=mbL))|exists SW,(Ej _ _),(w_or ?_ ?_)|((with_reducible show SW _ _ _ (.BoolOp _ [_] _) _);refine LH ?_)|exists (qN aV qI _),(BN QL PySem.F.slot_dict_clear PySem.F.type_dict_clear Ka ?_)|exists (mC (PV.bl _)),NN|exists (mCB pA _),(sD Hj PyProof.Rows.Boot.«list» ?_ (hb:=mbL))|exists (qN aV oY _),(BN QL PySem.F.slot_dict_keys PySem.F.type_dict_keys Hf ?_)|exists SSt,(BS _ _ _),(EO (fdL Z) ?_ ?_)|exists (mC (.tup _)),(K4 Z.MG_ROOT Z.GT_ROOT)|exists ST,(Bx _),(LG ?_)|exists (mUn (vGd _) _),(Hl Z.MG_KIND_FOR Z.GT_KIND_FOR ?_)|exists (iT _ _ _ _),(anE (by ac_nf) λc r=>anE r λm r=>anE r λg r=>anE r λq b=>K2 c m g q b ?_)|exists (xG _),(anE (by ac_nf) λD G=>Hk D G)|((with_reducible show SI _ _ _ _ _ (sQ _ _));refine K6 _ (λ_=>⟨_,_,_,rfl⟩) ?_)|exists (qN aV fU _),(BN QL PySem.F.slot_dict_items PySem.F.type_dict_items EV ?_)|exists (qN aV vF _),(BN QL PySem.F.slot_dict_values PySem.F.type_dict_values m_values ?_)|exists (iH _ _ _),(anE (by ac_nf) λD G=>EJ D G ?_ (hb:=mbL))|exists (mMt aV iE _ _),(Mv QL Se PySem.F.type_dict_setdefault wY ?_ ?_)|exists (mCB CU _),(nC LP PyProof.Rows.Boot.«len» ?_ (hb:=mbL))|exists (mC (PV.ty "list")),(Ed PyProof.Rows.Boot.«list» (hb:=mbL))|exists ST,(aQ _),(LC ?_)|exists SSt,(oX _ _ _),(K8 _ _ ?_)|exists SSt,cI,ML|((with_reducible show zW _ _ _ _ _ _);refine mtN (by ac_nf) (by decide) ?_)|((with_reducible show zW _ _ _ _ _ _);exact K0)|unfold pB|unfold pC|unfold pD|unfold pE|unfold gP|unfold gQ|unfold gR|unfold pF|unfold kE|unfold pG|unfold kO|unfold eP|unfold bR|unfold fN|unfold iQ|unfold iR|unfold lY|unfold pK|unfold qZ)
local macro_rules|`(tactic|and_intros)=>`(tactic|intro _ _ _ _ _ _ us hl;rcases us with _|⟨_,_|⟨_,_|⟨_,_|⟨_,_|⟨_,_|⟨_,_⟩⟩⟩⟩⟩⟩<;>first|rfl|cases hl)
local macro_rules|`(tactic|exists $e:ident)=>`(tactic|(refine dfM Z (by decide +kernel) (by and_intros) (by decide +kernel) λ_ _ _ _ _ _ _ nd=>?_;(conv=>arg 4;whnf);unfold $e;ac_rfl))|`(tactic|exists $a,$b,$c,$d:ident)=>`(tactic|(refine $a Z $b $c (by decide +kernel) (by and_intros) λ_ _ _ _ _ _ _ nd=>?_;(conv=>arg 4;whnf);unfold $d;ac_rfl))|`(tactic|exists $e,$f)=>`(tactic|((with_reducible show SE _ _ _ _ $e);refine $f))|`(tactic|exists $k,$e,$f)=>`(tactic|((with_reducible show $k _ _ _ _ $e);refine $f))
local macro_rules|`(tactic|ac_nf)=>`(tactic|first|exact HQ Z|exact HS Z|exact MT Z|exact HU Z|exact HV Z|exact HW Z|exact HX Z|exact Be Z|exact Bf Z|exact Ds Z|exact Bg Z|exact pO Z|exact HY Z|exact Kz Z|exact Bh Z|exact Dt Z|exact Bi Z|exact FW Z|exact Bj Z|exact Bk Z|exact HZ Z|exact FX Z|exact MU Z|exact pP Z|exact yC Z|exact qP Z|exact Ae Z|exact Af Z|exact pQ Z|exact tQ Z|exact yD Z|exact mG Z|exact mH Z|exact tR Z|exact kI Z|exact mI Z|exact tS Z)
theorem HQ:tC P w K mg base cl 1 "_law_drawn" 46 ["_law_cell","_law_place","_law_number"] 2 bX:=by
 exists xH
theorem HS:tC P w K mg base cl 2 "_law_hands" 47 ["_law_cell","_law_hands_here","_law_k","_law_hand","_law_step","_law_letter"] 1 xJ:=by
 exists xI
theorem MT:tC P w K mg base cl 2 "_law_act" 48 ["_law_cell","_law_hand","_law_number","_law_way","_law_near"] 3 F2:=by
 exists F1
theorem HU:tC P w K mg base cl 3 "_law_deeds" 49 ["_law_script","_law_hands_here","_law_most","_law_hand","_law_deeds_here","_law_cell","_law_seen","_law_k","_law_many"] 1 xM:=by
 exists xK
theorem HV:tC P w K mg base cl 1 "_law_taken" 51 ["_law_deeds_here","_law_taken_here","_law_deed","_law_reached","_law_other"] 1 xO:=by
 exists xN
theorem HW:tC P w K mg base cl 2 "_law_backs" 52 ["_law_deeds_here","_law_reached","_law_backs_here","_law_deed","_law_by"] 1 xQ:=by
 exists xP
theorem qP:tI P w K mg base cl "Tree" A_Tree 1 ["self"] 1 eU   := by
 exists mkM,Z.z_Tree,Z.m_Tree.1,eT
theorem Ae:tM P w K mg base cl "Tree" A_Tree 1 "fill" ["self","rows","lost","thing","kind","holder","spot"] 3 fV   := by
 exists mtM,Z.z_Tree,Z.m_Tree.2.1,jM
theorem mG:tI P w K mg base cl "Folding" A_Folding 3 ["self","base","rows","lost","thing","kind","holder","spot","content"] 2 cT   := by
 exists mkM,Z.z_Folding,Z.m_Folding.1,cS
theorem HX:tC P w K mg base cl 1 "empty" 40 [] 0 qX:=by
 exists xS
theorem mI:tI P w K mg base cl "Undoing" A_Undoing 1 ["self"] 1 cV   := by
 exists mkM,Z.z_Undoing,Z.m_Undoing.1,cU
theorem yC:tM P w K mg base cl "Count" A_Count 1 "hear" ["self","deed","act"] 2 dR   := by
 exists mtM,Z.z_Count,Z.m_Count.2.1,iJ
theorem tQ:tM P w K mg base cl "Tree" A_Tree 1 "kind_of" ["self","thing"] 2 bN   := by
 exists mtM,Z.z_Tree,Z.m_Tree.2.2.2.2.1,fJ
theorem yD:tM P w K mg base cl "Tree" A_Tree 2 "takes" ["self","holder","spot"] 3 dS   := by
 exists mtM,Z.z_Tree,Z.m_Tree.2.2.2.2.2.1,iK
theorem Be:tC P w K mg base cl 1 "place_of" 21 ["spot","name","under","side","hand","n"] 2 sV:=by
 exists sU
theorem Bf:tC P w K mg base cl 2 "stand_of" 36 ["spot","name"] 2 iL:=by
 exists lR
theorem pQ:tM P w K mg base cl "Tree" A_Tree 3 "hear_make" ["self","name","act","word","kind","holder","spot"] 3 dZ   := by
 exists mtM,Z.z_Tree,Z.m_Tree.2.2.2.1,dY
theorem Af:tM P w K mg base cl "Tree" A_Tree 4 "hear" ["self","deed","name","seen","act"] 2 dH   := by
 exists mtM,Z.z_Tree,Z.m_Tree.2.2.1,jN
theorem tS:tM P w K mg base cl "Undoing" A_Undoing 1 "hear" ["self","deed","name","seen","act"] 2 bO   := by
 exists mtM,Z.z_Undoing,Z.m_Undoing.2.1,fK
theorem pP:tI P w K mg base cl "Count" A_Count 1 ["self"] 1 gU   := by
 exists mkM,Z.z_Count,Z.m_Count.1,eC
theorem Ds:tC P w K mg base cl 3 "leaf_of" 32 ["kind"] 1 pI:=by
 exists pH
theorem mH:tM P w K mg base cl "Folding" A_Folding 4 "add_leaf" ["self","thing","kind","leaf"] 3 cX   := by
 exists mtM,Z.z_Folding,Z.m_Folding.2.1,cW
theorem kI:tM P w K mg base cl "Folding" A_Folding 5 "hear_tree" ["self","deed","fate","act"] 2 bL   := by
 exists mtM,Z.z_Folding,Z.m_Folding.2.2.2.1,cO
theorem Bg:tC P w K mg base cl 1 "kind_for" 33 ["word"] 1 iO:=by
 exists lU
theorem tR:tM P w K mg base cl "Folding" A_Folding 6 "hear" ["self","deed","act"] 2 cJ   := by
 exists mtM,Z.z_Folding,Z.m_Folding.2.2.1,fM
theorem pO:tC P w K mg base cl 7 "fates_in_force" 43 ["deeds","folding","undoing","found","deed","name","seen","act","outcome","by"] 1 eG:=by
 exists eD
theorem HY:tC P w K mg base cl 1 "stamp" 4 ["deed"] 1 xT:=by
 exists qY
theorem Kz:tC P w K mg base cl 2 "rank" 5 ["deed","hand","n"] 1 B6:=by
 exists B5
theorem Bh:tC P w K mg base cl 5 "in_order" 6 ["deeds","by_name","deed"] 1 cY:=by
 exists lV
theorem Dt:tC P w K mg base cl 1 "name_of" 8 ["deed"] 1 kF:=by
 exists pJ
theorem Bi:tC P w K mg base cl 1 "taker_of" 9 ["n","backs","back","word","first","last"] 2 lX:=by
 exists lW
theorem FW:tC P w K mg base cl 4 "takers" 10 ["deeds","taken","backs","deed","hand","n","word","by"] 1 jP:=by
 exists sX
theorem Bj:tC P w K mg base cl 6 "in_force" 12 ["deeds","ordered","taken"] 1 mB:=by
 exists lZ
theorem Bk:tC P w K mg base cl 6 "taken_by" 11 ["deeds","ordered","taken"] 1 mE:=by
 exists mD
theorem HZ:tC P w K mg base cl 8 "fates" 44 ["deeds","found","name","by"] 1 xV:=by
 exists xU
theorem FX:tC P w K mg base cl 1 "_law_rank" 50 ["_law_deed"] 1 cP:=by
 exists sY
theorem MU:tC P w K mg base cl 2 "_law_due" 53 ["_law_deed","_law_rows","_law_backs_here","_law_other","_law_made"] 3 A4:=by
 exists F3
theorem MV:tC P w K mg base cl 9 "law" 54 ["_law_script","_law_deeds_here","_law_backs_here","_law_cut","_law_handed","_law_kept","_law_found","_law_rows","_law_due_here"] 1 F5:=by
 exists F4
end
def spL(K:Pi):Sp:=λvs H Q _=>∃(a:Addr)(ns:List Int),vs=[.ref a]/\DR H/\SqL K H a (ns.map V.int)/\ns.length<=63/\∀H',Q (.bl true) H'
theorem all_mk{l:PySem.W.OpenLaw}{w:World}{K:Pi}{h:Heap}{mg:Str->Option Value}{fa A_Count A_Tree A_Folding A_Undoing bS jX:Addr}(X:K.In h)(G:h.Ns Qz mg)(xw:mg "law" = some (.ref fa))(hbn:∀x∈bsL,mg x=none)
  (ds:DsL K dL)
  (aw:ClX K A_Count "Count" fL)
  (m_Count:MsL K A_Count Cb)
  (bc:ClX K A_Tree "Tree" fL)
  (m_Tree:MsL K A_Tree FV)
  (ah:ClX K A_Folding "Folding" fL)
  (m_Folding:MsL K A_Folding vS)
  (ai:ClX K A_Undoing "Undoing" fL)
  (m_Undoing:MsL K A_Undoing vT)
  {ar:Array QX} {bp:Nat} (Bl:SY K Qz "KIND_FOR" = some (some (.ref bS))) (dr:K.lookup bS=some ⟨.type "dict",none,.dict ar bp,#[]⟩) (df:GEs w.params [("add","count"),("choose","choice"),("put","bag"),("take","bag"),("write","text"),("cut","text"),("mark","text"),("clear","text")] ar.toList) (dh:(bS == Qm)=false)
  {a0:Array Value} {dt:Nat} {iy:Array (Option Value)} (KA:SY K Qz "ROOT" = some (some (.ref jX))) (kj:K.lookup jX=some ⟨.type "tuple",none,.seq a0 dt,iy⟩) (ku:aJ [.str "",.int (0)] a0.toList) (kb:a0.size<=Pt)
  : ∃fd:Rc,(∀(s:Shared)(v:Value),BindsTo s fd ⟨[v],[]⟩ [("_law_script",v)])/\∀base:Heap,K.In base->base.Ns Qz mg->bV l.prog w K mg base CX0 9 fa fd ["_law_script"] (spL K):=by
 have Z:∀b,ZZ l.prog b w K mg (clF A_Count A_Tree A_Folding A_Undoing) A_Count A_Tree A_Folding A_Undoing bS jX:=λ_=>⟨hbn,⟨_,X,G⟩,ds,⟨(if_pos rfl),aw.cls9,R6 X G aw.n,aw.mx,aw.kc⟩,m_Count,⟨((if_neg (by decide)).trans (if_pos rfl)),bc.cls9,R6 X G bc.n,bc.mx,bc.kc⟩,m_Tree,⟨((if_neg (by decide)).trans ((if_neg (by decide)).trans (if_pos rfl))),ah.cls9,R6 X G ah.n,ah.mx,ah.kc⟩,m_Folding,⟨((if_neg (by decide)).trans ((if_neg (by decide)).trans ((if_neg (by decide)).trans (if_pos rfl)))),ai.cls9,R6 X G ai.n,ai.mx,ai.kc⟩,m_Undoing,R6 X G Bl,⟨dh,by decide,ar,bp,dr,df⟩,R6 X G KA,⟨_,a0,dt,[.str "",.int (0)],kj,rfl,rfl,kb,ku,rfl,rfl⟩,λf i c a hc=>clI (p:=λa=>Cls K a/\fY K a f) hc ⟨aw.cls9,aw.nf.at i⟩ ⟨bc.cls9,bc.nf.at i⟩ ⟨ah.cls9,ah.nf.at i⟩ ⟨ai.cls9,ai.nf.at i⟩⟩;obtain⟨f,a,oc,kV,doc,pm,cdv,ct,od,an,osl,l',c,k⟩:=(Z h).ds.at (x:="law") (i:=54) (by decide +kernel);cases xw.symm.trans (R6 X G a)
 refine⟨_,λs v=>.of_eq (fd:=Ra "law" "law" (dN (top 54)) (bP (top 54)) (aM (top 54)) .none kV doc pm an cdv ct) rfl,λbase _ _=>?_⟩;obtain⟨_,F⟩:=MV (Z base);have q:fA K "law" = fa:=by rw[fA,a]
 rw[q,dA,l']at F;refine F.imp λvs H Q E hh=>?_;obtain⟨a,ns,rfl,hO,hS,hl,hq⟩:=hh;exact JL (C:=cC w K (clF A_Count A_Tree A_Folding A_Undoing)) hO hS (main ns hl) hq
theorem walk{l:PySem.W.OpenLaw}{q:Program}{loose:List Str}{XP:(Str->Option Value)->Heap->Prop}{YP:World->Heap->Prop}{d:DefRec}{K:Params->Pi}(hn:l.most=some 63)(nc:d.params.defaults=[])
  (hY:∀(w:World)(h:Heap),YP w h->(K w.params).In h)
  (F:∀(w:World)(mg:Str->Option Value)(fa:Addr)(h:Heap),(K w.params).In h->h.Ns Qz mg->mg d.name=some (.ref fa)->
   ∃fd:Rc,(∀(s:Shared)(u:Value),BindsTo s fd ⟨[u],[]⟩ [("_law_script",u)])/\∀base:Heap,(K w.params).In base->base.Ns Qz mg->bV l.prog w (K w.params) mg base CX0 9 fa fd ["_law_script"] (spL (K w.params))):
  PySem.W.WalkO q loose XP YP l.row.toRowW d [] (λf vs=>PySem.call f vs):=
 L2.walk_of (n:=63) (k:=9) (x:="_law_script") (CX:=λ_=>CX0) (sp:=λw=>spL (K w.params)) hn (by decide) nc ⟨rfl,by decide,by decide⟩ hY F (λw H a ns hl hO hS=>⟨a,ns,rfl,hO,hS,hl,λ_=>rfl⟩) λ_ _ _ _ _ z=>z
end K71
open PySem PySem.W PyProof.Rows
namespace PySem.W.Fast
theorem tw7026624213900513776:True:=⟨⟩
theorem tw9058792440162370274:True:=⟨⟩
theorem tw10340120320855781235:True:=⟨⟩
theorem tw17424425318395342840:True:=⟨⟩
theorem tw13934856614565984242:True:=⟨⟩
theorem tw155626167553826559:True:=⟨⟩
theorem tw10607398376390867203:True:=⟨⟩
theorem tw6482229959972998343:True:=⟨⟩
theorem tw6606896510742276327:True:=⟨⟩
theorem tw9157315772275091191:True:=⟨⟩
theorem tw15234758130783256782:True:=⟨⟩
theorem tw14574475161234295370:True:=⟨⟩
theorem tw956701110181792654:True:=⟨⟩
theorem tw4135414789612384663:True:=⟨⟩
theorem tw8081105384219168845:True:=⟨⟩
theorem tw7906480033335886384:True:=⟨⟩
theorem tw523412435974018674:True:=⟨⟩
theorem tw1294284608516531767:True:=⟨⟩
theorem tw11552695888846533349:True:=⟨⟩
theorem tw10511798648608173116:True:=⟨⟩
theorem tw3205925099559906248:True:=⟨⟩
theorem tw8914712044079609165:True:=⟨⟩
theorem tw5822846763173993243:True:=⟨⟩
theorem tw6283933717407849080:True:=⟨⟩
theorem tw8312140976954111658:True:=⟨⟩
theorem tw4266942649479196810:True:=⟨⟩
theorem tw16061190060616269865:True:=⟨⟩
theorem tw2964995352786746306:True:=⟨⟩
theorem tw13760270697752162154:True:=⟨⟩
theorem tw1909469613262148728:True:=⟨⟩
theorem tw14926025899937966014:True:=⟨⟩
theorem tw10857669614320240905:True:=⟨⟩
theorem tw1473772303065628327:True:=⟨⟩
theorem tw16974008294492321711:True:=⟨⟩
theorem tw16913358677727221086:True:=⟨⟩
theorem tw16278171352289802662:True:=⟨⟩
theorem tw9657303517925662391:True:=⟨⟩
theorem tw11986897395912847521:True:=⟨⟩
theorem tw9587471144059688444:True:=⟨⟩
theorem tw14456202898128649734:True:=⟨⟩
theorem tw10042518644904523990:True:=⟨⟩
theorem tw2054206896801322863:True:=⟨⟩
theorem tw7608374281470646360:True:=⟨⟩
theorem tw13198544677559059462:True:=⟨⟩
theorem tw17160323283944897000:True:=⟨⟩
theorem tw879575184946471064:True:=⟨⟩
theorem tw8770799866208354739:True:=⟨⟩
theorem tw12422473928677458432:True:=⟨⟩
theorem tw12695187081565894824:True:=⟨⟩
theorem tw2784052138411186181:True:=⟨⟩
theorem tw11587952801520809429:True:=⟨⟩
theorem tw1950687537629396229:True:=⟨⟩
theorem tw642805036738336904:True:=⟨⟩
theorem tw15683267037402790635:True:=⟨⟩
theorem tw16130860186904183273:True:=⟨⟩
theorem tw1102325101693003460:True:=⟨⟩
theorem tw12368755965857169226:True:=⟨⟩
theorem tw5896260000848473385:True:=⟨⟩
theorem tw12499080788024529456:True:=⟨⟩
theorem tw2754396399917467720:True:=⟨⟩
theorem tw575389198328459408:True:=⟨⟩
theorem tw17913497991514293214:True:=⟨⟩
theorem tw13711102320182289855:True:=⟨⟩
theorem tw4728197946826579344:True:=⟨⟩
theorem tw4506670738324956482:True:=⟨⟩
theorem tw9552650326536856610:True:=⟨⟩
theorem tw12177864014575632473:True:=⟨⟩
theorem tw15699777374431083411:True:=⟨⟩
theorem tw5544011505835035424:True:=⟨⟩
theorem tw737024406953350822:True:=⟨⟩
theorem tw12620926654425555708:True:=⟨⟩
theorem tw3079085552005723912:True:=⟨⟩
theorem tw16556110039247701480:True:=⟨⟩
theorem tw10616004762071248862:True:=⟨⟩
theorem tw7573002606146369787:True:=⟨⟩
theorem tw12418579757815519746:True:=⟨⟩
theorem tw12154477436206325580:True:=⟨⟩
theorem tw4120012507765224656:True:=⟨⟩
theorem tw10766785400183003099:True:=⟨⟩
theorem tw9224219487925861708:True:=⟨⟩
theorem tw12459551868966132979:True:=⟨⟩
theorem tw3785414126000909134:True:=⟨⟩
theorem tw4961372482393166613:True:=⟨⟩
theorem tw8600483500707127857:True:=⟨⟩
theorem tw1627666068939384382:True:=⟨⟩
theorem tw13735976037990568176:True:=⟨⟩
theorem tw8784054658391764080:True:=⟨⟩
theorem tw2311036248438526191:True:=⟨⟩
theorem tw11784576346694174213:True:=⟨⟩
theorem tw4951375244185693360:True:=⟨⟩
theorem tw17947018814050937985:True:=⟨⟩
theorem tw2407403885197189823:True:=⟨⟩
theorem tw3152658218732296692:True:=⟨⟩
theorem tw4099919607239218563:True:=⟨⟩
theorem tw15495414645982870676:True:=⟨⟩
theorem tw850109296890798934:True:=⟨⟩
theorem tw8697188245132444702:True:=⟨⟩
theorem tw534899216737181482:True:=⟨⟩
theorem tw9966597861847281198:True:=⟨⟩
theorem tw16710553129828375772:True:=⟨⟩
theorem tw811910429823471272:True:=⟨⟩
theorem tw7879570740949340676:True:=⟨⟩
theorem tw3989727352872368156:True:=⟨⟩
theorem tw3809686015572076887:True:=⟨⟩
theorem tw8878031938154016728:True:=⟨⟩
theorem tw8744072471094829623:True:=⟨⟩
theorem tw3298587953771136464:True:=⟨⟩
theorem tw1671185004154763697:True:=⟨⟩
theorem tw4175416890907270887:True:=⟨⟩
theorem tw14146867555380214719:True:=⟨⟩
theorem tw4749437113366264827:True:=⟨⟩
theorem tw3849786758004313403:True:=⟨⟩
theorem tw14891264390028918462:True:=⟨⟩
theorem tw402091088882047578:True:=⟨⟩
theorem tw5149048560670670355:True:=⟨⟩
theorem tw14112139075091310495:True:=⟨⟩
theorem tw9423522864547904271:True:=⟨⟩
theorem tw14802573482040975761:True:=⟨⟩
theorem tw6279979729499829994:True:=⟨⟩
theorem tw954229402694064720:True:=⟨⟩
theorem tw2131688740564667071:True:=⟨⟩
theorem tw15492047704322158741:True:=⟨⟩
theorem tw17015360194788541581:True:=⟨⟩
theorem tw15128646957318390215:True:=⟨⟩
theorem tw5913715270254125469:True:=⟨⟩
theorem tw7044807652073442565:True:=⟨⟩
theorem tw6801354899991276115:True:=⟨⟩
theorem tw12079198394728322736:True:=⟨⟩
theorem tw13210335247430154455:True:=⟨⟩
theorem tw4184106200207694622:True:=⟨⟩
theorem tw17994160876546867009:True:=⟨⟩
theorem tw386696395168750087:True:=⟨⟩
theorem tw8417384348548744278:True:=⟨⟩
theorem tw1080752555156925419:True:=⟨⟩
theorem tw3831738182871070693:True:=⟨⟩
theorem tw7096383658975790977:True:=⟨⟩
theorem tw17020682103701473719:True:=⟨⟩
theorem tw7919387978029181741:True:=⟨⟩
theorem tw14971526719006892306:True:=⟨⟩
theorem tw13098466005884813375:True:=⟨⟩
theorem tw2368633009707846346:True:=⟨⟩
theorem tw6425857611938542334:True:=⟨⟩
theorem tw14230495844379468406:True:=⟨⟩
theorem tw7712358301785549147:True:=⟨⟩
theorem tw16716737233202822671:True:=⟨⟩
theorem tw15534892955727998177:True:=⟨⟩
theorem tw6930354225795123513:True:=⟨⟩
theorem tw17369266594349580195:True:=⟨⟩
theorem tw15597054685107106614:True:=⟨⟩
theorem tw6103061324059503143:True:=⟨⟩
theorem tw15764562924166803552:True:=⟨⟩
theorem tw8142175711778399270:True:=⟨⟩
theorem tw5078140833103144639:True:=⟨⟩
theorem tw4515477196122077806:True:=⟨⟩
theorem tw17220422643486523138:True:=⟨⟩
theorem tw9667735650888627072:True:=⟨⟩
theorem tw9453632995844593737:True:=⟨⟩
theorem tw10833849810611657920:True:=⟨⟩
theorem tw14383067230813997386:True:=⟨⟩
theorem tw1370712262602228111:True:=⟨⟩
theorem tw8349455014188838024:True:=⟨⟩
theorem tw14635503215072083378:True:=⟨⟩
theorem tw7001778722290752287:True:=⟨⟩
theorem tw11629792140656632747:True:=⟨⟩
theorem tw1748971507227705696:True:=⟨⟩
theorem tw369904916298137029:True:=⟨⟩
theorem tw10256042543932754321:True:=⟨⟩
theorem tw8674435883692006584:True:=⟨⟩
theorem tw14828006974467815482:True:=⟨⟩
theorem tw15231358883300496047:True:=⟨⟩
theorem tw4842691940051032626:True:=⟨⟩
theorem tw17780200414626973557:True:=⟨⟩
theorem tw7222255931308011412:True:=⟨⟩
theorem tw12563117152667243429:True:=⟨⟩
theorem tw17059719372321314321:True:=⟨⟩
theorem tw9002743074208392441:True:=⟨⟩
theorem tw9200750981069615793:True:=⟨⟩
theorem tw14049112426410003934:True:=⟨⟩
theorem tw18009099053843047459:True:=⟨⟩
theorem tw18200007296313792736:True:=⟨⟩
theorem tw15489858722810502682:True:=⟨⟩
theorem tw11580679942220913705:True:=⟨⟩
theorem tw2610708880765397597:True:=⟨⟩
theorem tw6015120329348270785:True:=⟨⟩
theorem tw15246565666704878270:True:=⟨⟩
theorem tw3690080675528285841:True:=⟨⟩
theorem tw1988194086278896023:True:=⟨⟩
theorem tw15253022644676338114:True:=⟨⟩
theorem tw2463965762453491579:True:=⟨⟩
theorem tw2348667107000082275:True:=⟨⟩
theorem tw18029549125363086317:True:=⟨⟩
theorem tw14643179374288704229:True:=⟨⟩
theorem tw10450052413528579379:True:=⟨⟩
theorem tw4795797849952225736:True:=⟨⟩
theorem tw6996321640366398285:True:=⟨⟩
theorem tw2558506073161867496:True:=⟨⟩
theorem tw6462424515396186589:True:=⟨⟩
theorem tw3529838224546300957:True:=⟨⟩
theorem tw1110299433518644415:True:=⟨⟩
theorem tw1893261131981422553:True:=⟨⟩
theorem tw17976703838818867572:True:=⟨⟩
theorem tw18198958725239897145:True:=⟨⟩
theorem tw7025474489751700406:True:=⟨⟩
theorem tw12708111678002968944:True:=⟨⟩
theorem tw5802063993769836412:True:=⟨⟩
theorem tw17138413020826441988:True:=⟨⟩
theorem tw16647164871338149569:True:=⟨⟩
theorem tw2497190968250097482:True:=⟨⟩
theorem tw16619643969588087313:True:=⟨⟩
theorem tw12303850810615105031:True:=⟨⟩
theorem tw8614872676231747420:True:=⟨⟩
theorem tw1514209728003373321:True:=⟨⟩
theorem tw14771550535148619719:True:=⟨⟩
theorem tw16530267581226187587:True:=⟨⟩
theorem tw14986093215116963031:True:=⟨⟩
theorem tw8481187429013079629:True:=⟨⟩
theorem tw7867388439640287708:True:=⟨⟩
theorem tw16893710620869370136:True:=⟨⟩
theorem tw3946540836629918893:True:=⟨⟩
theorem tw15898465595124307754:True:=⟨⟩
theorem tw386913010042209117:True:=⟨⟩
theorem tw18074500737069107335:True:=⟨⟩
theorem tw12179133025078688382:True:=⟨⟩
theorem tw7141149318885639491:True:=⟨⟩
theorem tw7241989667028910489:True:=⟨⟩
theorem tw7074198160327372633:True:=⟨⟩
theorem tw5117005379156703682:True:=⟨⟩
theorem tw15057531746183451481:True:=⟨⟩
theorem tw14447227308165204660:True:=⟨⟩
theorem tw3110634533913183521:True:=⟨⟩
theorem tw3263914152371222175:True:=⟨⟩
theorem tw9950080686877357346:True:=⟨⟩
theorem tw11757297885643948124:True:=⟨⟩
theorem tw18063803839104768413:True:=⟨⟩
theorem tw17582040042830224501:True:=⟨⟩
theorem tw5593664623718418074:True:=⟨⟩
theorem tw3901621128586092452:True:=⟨⟩
theorem tw13662907214390298693:True:=⟨⟩
theorem tw5181543209328074993:True:=⟨⟩
theorem tw10470560358709750275:True:=⟨⟩
theorem tw3162522512430259554:True:=⟨⟩
theorem tw7718952309137227756:True:=⟨⟩
theorem tw6006998732781338954:True:=⟨⟩
theorem tw2239561321507621334:True:=⟨⟩
theorem tw14605217038201204569:True:=⟨⟩
theorem tw13190611149082499149:True:=⟨⟩
theorem tw14493456097863296171:True:=⟨⟩
theorem tw7957774718202973094:True:=⟨⟩
theorem tw7475347204247965675:True:=⟨⟩
theorem tw2848741210673397996:True:=⟨⟩
theorem tw8105965691786504828:True:=⟨⟩
theorem tw12030560474968311052:True:=⟨⟩
theorem tw15581935920591868246:True:=⟨⟩
theorem tw10928278765684861950:True:=⟨⟩
theorem tw16733690854394868927:True:=⟨⟩
theorem tw16266831076454858149:True:=⟨⟩
theorem tw2387628502021163041:True:=⟨⟩
theorem tw4699176495269299903:True:=⟨⟩
theorem tw5818214735625348958:True:=⟨⟩
theorem tw11272918559536333537:True:=⟨⟩
theorem tw10602484973910972678:True:=⟨⟩
theorem tw11552538548392907146:True:=⟨⟩
theorem tw9972578272349573424:True:=⟨⟩
theorem tw10686968279900890121:True:=⟨⟩
theorem tw18284503346789125964:True:=⟨⟩
theorem tw8993794261460699471:True:=⟨⟩
theorem tw4844893780455129215:True:=⟨⟩
theorem tw4210765851659484725:True:=⟨⟩
theorem tw7258554883761627209:True:=⟨⟩
theorem tw322696090817577631:True:=⟨⟩
theorem tw14781011592863523729:True:=⟨⟩
theorem tw4671050098612535899:True:=⟨⟩
theorem tw464696051653234062:True:=⟨⟩
theorem tw3164964128347254084:True:=⟨⟩
theorem tw12652340766030382052:True:=⟨⟩
theorem tw18060827934702815604:True:=⟨⟩
theorem tw8353763211338257397:True:=⟨⟩
theorem tw16445269045620784588:True:=⟨⟩
theorem tw13916252397049595902:True:=⟨⟩
theorem tw13439551015313426915:True:=⟨⟩
theorem tw9366168471827895143:True:=⟨⟩
theorem tw5249118243125219235:True:=⟨⟩
theorem tw6857077857121193139:True:=⟨⟩
theorem tw7244211300113015650:True:=⟨⟩
theorem tw314572845832922815:True:=⟨⟩
theorem tw3348531648887371713:True:=⟨⟩
theorem tw3428019996230800383:True:=⟨⟩
theorem tw11850920952408136047:True:=⟨⟩
theorem tw12207598653948472185:True:=⟨⟩
theorem tw4547893801086226686:True:=⟨⟩
theorem tw7566192578139741743:True:=⟨⟩
theorem tw8250076423675729191:True:=⟨⟩
theorem tw13763266786860731316:True:=⟨⟩
theorem tw7008232745112067447:True:=⟨⟩
theorem tw14632060470678075366:True:=⟨⟩
theorem tw16583781796123345226:True:=⟨⟩
theorem tw5363533102333042145:True:=⟨⟩
theorem tw17241240710762436129:True:=⟨⟩
theorem tw360278577134797093:True:=⟨⟩
theorem tw291175245476348459:True:=⟨⟩
theorem tw5455069010821309251:True:=⟨⟩
theorem tw16318102250382049495:True:=⟨⟩
theorem tw10646039274117669651:True:=⟨⟩
theorem tw3970805916605274698:True:=⟨⟩
theorem tw3907931748759655981:True:=⟨⟩
theorem tw17755202142817315323:True:=⟨⟩
theorem tw3627052236945779144:True:=⟨⟩
theorem tw3099519135936085837:True:=⟨⟩
theorem tw9174386553333537202:True:=⟨⟩
theorem tw3378491988320516955:True:=⟨⟩
theorem tw18044244946255912056:True:=⟨⟩
theorem tw14493239411145132382:True:=⟨⟩
theorem tw1932028106920926105:True:=⟨⟩
theorem tw1479029519284312787:True:=⟨⟩
theorem tw14613257200128981171:True:=⟨⟩
theorem tw8160124769652800693:True:=⟨⟩
theorem tw10012299793073662035:True:=⟨⟩
theorem tw3851952259332390483:True:=⟨⟩
theorem tw5073865744454821280:True:=⟨⟩
theorem tw10062367880543052807:True:=⟨⟩
theorem tw12682190943778896000:True:=⟨⟩
theorem tw15330040837573035473:True:=⟨⟩
theorem tw17096731064118481299:True:=⟨⟩
theorem tw12674726711275065058:True:=⟨⟩
theorem tw4734841145667370487:True:=⟨⟩
theorem tw7375394808744216894:True:=⟨⟩
theorem tw18276310878148950996:True:=⟨⟩
theorem tw11313172001121159116:True:=⟨⟩
theorem tw8605020478347455867:True:=⟨⟩
theorem tw15187815699797956849:True:=⟨⟩
theorem tw2144114008342005598:True:=⟨⟩
theorem tw13548367916717829009:True:=⟨⟩
theorem tw6270864720445392641:True:=⟨⟩
theorem tw13194421646384001444:True:=⟨⟩
theorem tw3459074719173431008:True:=⟨⟩
theorem tw13016530557514560534:True:=⟨⟩
theorem tw8221089735047168887:True:=⟨⟩
theorem tw13449023665490790286:True:=⟨⟩
theorem tw656704269717463618:True:=⟨⟩
theorem tw13201963355630247584:True:=⟨⟩
theorem tw4915322062853468655:True:=⟨⟩
theorem tw10069117042617204498:True:=⟨⟩
theorem tw1798553185735985422:True:=⟨⟩
theorem tw16494278023891684821:True:=⟨⟩
theorem tw2023396955094604524:True:=⟨⟩
theorem tw15106790121430691417:True:=⟨⟩
theorem tw11711623619029000181:True:=⟨⟩
theorem tw13034261920438163894:True:=⟨⟩
theorem tw15505847917646539180:True:=⟨⟩
theorem tw5288327830045455323:True:=⟨⟩
theorem tw18113475983557055854:True:=⟨⟩
theorem tw7503608492040321856:True:=⟨⟩
theorem tw2955012386746521560:True:=⟨⟩
theorem tw16001637243658477216:True:=⟨⟩
theorem tw2434129261020849059:True:=⟨⟩
theorem tw3833202324535991081:True:=⟨⟩
theorem tw13716897650990628656:True:=⟨⟩
theorem tw639738105741840301:True:=⟨⟩
theorem tw16113537689276308303:True:=⟨⟩
theorem tw5041959565460572401:True:=⟨⟩
theorem tw7458225297367526283:True:=⟨⟩
theorem tw4071199379851562418:True:=⟨⟩
theorem tw15215351528431493775:True:=⟨⟩
theorem tw14119166049894404380:True:=⟨⟩
theorem tw15041044777520209926:True:=⟨⟩
theorem tw15022066927445700999:True:=⟨⟩
theorem tw17565418291200900990:True:=⟨⟩
theorem tw15696027404431608633:True:=⟨⟩
theorem tw7270328560525020876:True:=⟨⟩
theorem tw3562309810908380172:True:=⟨⟩
theorem tw14165492435407006739:True:=⟨⟩
theorem tw10889769070005603478:True:=⟨⟩
theorem tw15499069999147691302:True:=⟨⟩
theorem tw1353309813410224560:True:=⟨⟩
theorem tw12405139572223472937:True:=⟨⟩
theorem tw13166759668659524145:True:=⟨⟩
theorem tw6095489877719872464:True:=⟨⟩
theorem tw5409463434331385650:True:=⟨⟩
theorem tw11003458429567700948:True:=⟨⟩
theorem tw15434730001037842784:True:=⟨⟩
theorem tw10736062967643088152:True:=⟨⟩
theorem tw13582654511778592336:True:=⟨⟩
theorem tw2585191426617715039:True:=⟨⟩
theorem tw11515034261708645958:True:=⟨⟩
theorem tw11018725871005520602:True:=⟨⟩
theorem tw4652009507337982839:True:=⟨⟩
theorem tw12484216713841788411:True:=⟨⟩
theorem tw10316759767709850560:True:=⟨⟩
theorem tw11565661615020881228:True:=⟨⟩
theorem tw3276693091232017151:True:=⟨⟩
theorem tw5777747566861791400:True:=⟨⟩
theorem tw10910311128600954328:True:=⟨⟩
theorem tw18042922437552880503:True:=⟨⟩
theorem tw15070452129466505821:True:=⟨⟩
theorem tw15578829814814489849:True:=⟨⟩
theorem tw4206415403170166574:True:=⟨⟩
theorem tw14043230118805541388:True:=⟨⟩
theorem tw8349639188032362380:True:=⟨⟩
theorem tw1733536042210969656:True:=⟨⟩
theorem tw2877121572650123159:True:=⟨⟩
theorem tw17159667989019578631:True:=⟨⟩
theorem tw13463107510213271729:True:=⟨⟩
theorem tw12282444035029022022:True:=⟨⟩
theorem tw6990372845802073578:True:=⟨⟩
theorem tw18173503214204547864:True:=⟨⟩
theorem tw9747739924070451484:True:=⟨⟩
theorem tw7255303608383117429:True:=⟨⟩
theorem tw1384126211922657670:True:=⟨⟩
theorem tw12008654874363854765:True:=⟨⟩
theorem tw2923018967295037089:True:=⟨⟩
theorem tw10500667583781561752:True:=⟨⟩
theorem tw3214126796651649750:True:=⟨⟩
theorem tw9031508064552680910:True:=⟨⟩
theorem tw5681856386984929242:True:=⟨⟩
theorem tw8232892672659825552:True:=⟨⟩
theorem tw6271803488851708405:True:=⟨⟩
theorem tw9662494279189916544:True:=⟨⟩
theorem tw9171594359724387867:True:=⟨⟩
theorem tw12119334491014576814:True:=⟨⟩
theorem tw14042350498024915254:True:=⟨⟩
theorem tw341319227658362018:True:=⟨⟩
theorem tw10751788117730941377:True:=⟨⟩
theorem tw17048101419781166773:True:=⟨⟩
theorem tw6013665523031213146:True:=⟨⟩
theorem tw3671353233982458265:True:=⟨⟩
theorem tw17754467209336901806:True:=⟨⟩
theorem tw3699666862342809067:True:=⟨⟩
theorem tw11508806139268275857:True:=⟨⟩
theorem tw9759500042671014925:True:=⟨⟩
theorem tw17817603850449516460:True:=⟨⟩
theorem tw8168041868771643855:True:=⟨⟩
theorem tw16127613320599352079:True:=⟨⟩
theorem tw13854158489983025904:True:=⟨⟩
theorem tw7592516872061432194:True:=⟨⟩
theorem tw3028352958292284743:True:=⟨⟩
theorem tw18176992969348868069:True:=⟨⟩
theorem tw11802188885257630369:True:=⟨⟩
theorem tw16895587855184942876:True:=⟨⟩
theorem tw15780844435353183266:True:=⟨⟩
theorem tw1309805000232147852:True:=⟨⟩
theorem tw15958145197261076226:True:=⟨⟩
theorem tw6043048564772589910:True:=⟨⟩
theorem tw1706628188264300736:True:=⟨⟩
theorem tw11749839746043124477:True:=⟨⟩
theorem tw1369869819736062133:True:=⟨⟩
theorem tw2834783198497820751:True:=⟨⟩
theorem tw11011423528924576525:True:=⟨⟩
theorem tw2862135070774393234:True:=⟨⟩
theorem tw11621486283982044649:True:=⟨⟩
theorem tw6634034673718404375:True:=⟨⟩
theorem tw3137376841249253944:True:=⟨⟩
theorem tw9238943324153206163:True:=⟨⟩
theorem tw9069618437755511969:True:=⟨⟩
theorem tw6625021300485834462:True:=⟨⟩
theorem tw14245380796558880750:True:=⟨⟩
theorem tw14827608316719410758:True:=⟨⟩
theorem tw17318624892056458078:True:=⟨⟩
theorem tw11179012128317493175:True:=⟨⟩
theorem tw10295442028288127266:True:=⟨⟩
theorem tw14529239170133682730:True:=⟨⟩
theorem tw13328451615568922233:True:=⟨⟩
theorem tw9232632094693106168:True:=⟨⟩
theorem tw10070494289890806637:True:=⟨⟩
theorem tw6052868676676600211:True:=⟨⟩
theorem tw8065037371139417977:True:=⟨⟩
theorem tw5333072459659589938:True:=⟨⟩
theorem tw16293135625904573573:True:=⟨⟩
theorem tw367936239248600916:True:=⟨⟩
theorem tw11228502083179409107:True:=⟨⟩
theorem tw15643106762809861355:True:=⟨⟩
theorem tw11088813794214846835:True:=⟨⟩
theorem tw8617070471424123251:True:=⟨⟩
theorem tw863536116598612939:True:=⟨⟩
theorem tw16560287101963239043:True:=⟨⟩
theorem tw2435518314509898397:True:=⟨⟩
theorem tw6224004377086377080:True:=⟨⟩
theorem tw12586343806438900660:True:=⟨⟩
theorem tw9227788947124074999:True:=⟨⟩
theorem tw443435733435564016:True:=⟨⟩
theorem tw13540556146811082213:True:=⟨⟩
theorem tw11606966575907274184:True:=⟨⟩
theorem tw17431240543574292744:True:=⟨⟩
theorem tw17314261976774728741:True:=⟨⟩
theorem tw6920138456280053726:True:=⟨⟩
theorem tw15459120393193741060:True:=⟨⟩
theorem tw79767985665476494:True:=⟨⟩
theorem tw13873648508482579237:True:=⟨⟩
theorem tw14212902260368309747:True:=⟨⟩
theorem tw12382433057001488275:True:=⟨⟩
theorem tw11702902856252096435:True:=⟨⟩
theorem tw15317773611432319251:True:=⟨⟩
theorem tw10593987085666831637:True:=⟨⟩
theorem tw13856396431101900303:True:=⟨⟩
theorem tw9346787431393962495:True:=⟨⟩
theorem tw14987480644787498094:True:=⟨⟩
theorem tw9094123945663662721:True:=⟨⟩
theorem tw6869234199495267743:True:=⟨⟩
theorem tw1418876492139085280:True:=⟨⟩
theorem tw3977852150301313469:True:=⟨⟩
theorem tw12935312075723071881:True:=⟨⟩
theorem tw762171160225083443:True:=⟨⟩
theorem tw17316960102983200006:True:=⟨⟩
theorem tw1739899513710075957:True:=⟨⟩
theorem tw1260357518253234982:True:=⟨⟩
theorem tw16547659111999858660:True:=⟨⟩
theorem tw14677662365854388260:True:=⟨⟩
theorem tw13034762133826711644:True:=⟨⟩
theorem tw17175087018948226702:True:=⟨⟩
theorem tw8768895019934817068:True:=⟨⟩
theorem tw10777661129066553782:True:=⟨⟩
theorem tw9282179093777749706:True:=⟨⟩
theorem tw5413000005595591581:True:=⟨⟩
theorem tw4384773261211195138:True:=⟨⟩
theorem tw1943433376591862137:True:=⟨⟩
theorem tw16230884308626011360:True:=⟨⟩
theorem tw4078105044730751903:True:=⟨⟩
theorem tw17859873360429681128:True:=⟨⟩
theorem tw5138924744797822085:True:=⟨⟩
theorem tw16906400917606112835:True:=⟨⟩
theorem tw4428432732032930241:True:=⟨⟩
theorem tw9998844824014654070:True:=⟨⟩
theorem tw14447214232308665258:True:=⟨⟩
theorem tw11121914230526537621:True:=⟨⟩
theorem tw2358423736505433583:True:=⟨⟩
theorem tw14789694132835010538:True:=⟨⟩
theorem tw256956875003305608:True:=⟨⟩
theorem tw3018588981915607766:True:=⟨⟩
theorem tw1243858132806244396:True:=⟨⟩
theorem tw10128331483165761740:True:=⟨⟩
theorem tw780402267233388030:True:=⟨⟩
theorem tw14505306620387635141:True:=⟨⟩
theorem tw5488647699543183489:True:=⟨⟩
theorem tw10267637332799570798:True:=⟨⟩
theorem tw6518482263483798864:True:=⟨⟩
theorem tw15691213392370491773:True:=⟨⟩
theorem tw2423498503694110910:True:=⟨⟩
theorem tw246606125063054401:True:=⟨⟩
theorem tw6003617837322763506:True:=⟨⟩
theorem tw13158175606761498656:True:=⟨⟩
theorem tw2162479504260562338:True:=⟨⟩
theorem tw6426263515007869352:True:=⟨⟩
theorem tw14632754693906179966:True:=⟨⟩
theorem tw15004954349920626917:True:=⟨⟩
theorem tw9582712337676565601:True:=⟨⟩
theorem tw13815864203835132034:True:=⟨⟩
theorem tw13843849357301254954:True:=⟨⟩
theorem tw16065931083761485607:True:=⟨⟩
theorem tw8334456266936785063:True:=⟨⟩
theorem tw3520098517776848205:True:=⟨⟩
theorem tw13801350759602757555:True:=⟨⟩
theorem tw3103248724905336943:True:=⟨⟩
theorem tw3407714468002392686:True:=⟨⟩
theorem tw17900122085447096790:True:=⟨⟩
theorem tw540238779565532392:True:=⟨⟩
theorem tw13734813282089318432:True:=⟨⟩
theorem tw14110323822515012122:True:=⟨⟩
theorem tw3514225449003193528:True:=⟨⟩
theorem tw12234759897513753239:True:=⟨⟩
theorem tw16512395030991904014:True:=⟨⟩
theorem tw265994977532040355:True:=⟨⟩
theorem tw4530096511405345949:True:=⟨⟩
theorem tw18315439202025128904:True:=⟨⟩
theorem tw2022935545348315544:True:=⟨⟩
theorem tw5825871785699006239:True:=⟨⟩
theorem tw10061398407905009361:True:=⟨⟩
theorem tw14279368745990568030:True:=⟨⟩
theorem tw17661394986413833867:True:=⟨⟩
theorem tw2665603480684717076:True:=⟨⟩
theorem tw1506458057983780757:True:=⟨⟩
theorem tw14725818539642994804:True:=⟨⟩
theorem tw155878574806241785:True:=⟨⟩
theorem tw17791720332525672571:True:=⟨⟩
theorem tw17959861381630315763:True:=⟨⟩
theorem tw13849899605394685664:True:=⟨⟩
theorem tw15959849042362251811:True:=⟨⟩
theorem tw4427053145625787540:True:=⟨⟩
theorem tw9231899452080551152:True:=⟨⟩
theorem tw15176163434708510209:True:=⟨⟩
theorem tw16764627884827378709:True:=⟨⟩
theorem tw13629138529290220510:True:=⟨⟩
theorem tw4303681121156368624:True:=⟨⟩
theorem tw8530921812524781994:True:=⟨⟩
theorem tw2557817485406677990:True:=⟨⟩
theorem tw3975751309144642941:True:=⟨⟩
theorem tw3622716191496841379:True:=⟨⟩
theorem tw6574680690026827673:True:=⟨⟩
theorem tw14879019864958902471:True:=⟨⟩
theorem tw18047778175472681985:True:=⟨⟩
theorem tw13250009793186860521:True:=⟨⟩
theorem tw414892996617537754:True:=⟨⟩
theorem tw12623370340060976916:True:=⟨⟩
theorem tw17571457111021199527:True:=⟨⟩
theorem tw2854737225679711563:True:=⟨⟩
theorem tw7113743805412844627:True:=⟨⟩
theorem tw9481519202254454071:True:=⟨⟩
theorem tw14515624703217505379:True:=⟨⟩
theorem tw17874011681440916234:True:=⟨⟩
theorem tw985715688782121724:True:=⟨⟩
theorem tw15013612790058200966:True:=⟨⟩
theorem tw4036307854716146381:True:=⟨⟩
theorem tw15908995701399326067:True:=⟨⟩
theorem tw9784766282489412700:True:=⟨⟩
theorem tw17628188538649055676:True:=⟨⟩
theorem tw4632420957403688497:True:=⟨⟩
theorem tw8854210904255882619:True:=⟨⟩
theorem tw11563097528205391016:True:=⟨⟩
theorem tw13550453021695204091:True:=⟨⟩
theorem tw1866431289398320401:True:=⟨⟩
theorem tw4985290052470398687:True:=⟨⟩
theorem tw6994205085129313752:True:=⟨⟩
theorem tw4606036509675328859:True:=⟨⟩
theorem tw5995143932229311424:True:=⟨⟩
theorem tw12291043594251166834:True:=⟨⟩
theorem tw9690127976577892217:True:=⟨⟩
theorem tw3691385008134838180:True:=⟨⟩
theorem tw18098751611338092144:True:=⟨⟩
theorem tw1834170364575742195:True:=⟨⟩
theorem tw15679488837786501801:True:=⟨⟩
theorem tw8318735344844946324:True:=⟨⟩
theorem tw1588835147101925243:True:=⟨⟩
theorem tw13805940504809189178:True:=⟨⟩
theorem tw5413315061409856689:True:=⟨⟩
theorem tw10330039482563042904:True:=⟨⟩
theorem tw9740766517473989836:True:=⟨⟩
theorem tw5521090192358200649:True:=⟨⟩
theorem tw6622076325421302241:True:=⟨⟩
theorem tw17297801453337430015:True:=⟨⟩
theorem tw612368164681912275:True:=⟨⟩
theorem tw2846317331114867623:True:=⟨⟩
theorem tw15112753925382722663:True:=⟨⟩
theorem tw17859542427377414573:True:=⟨⟩
theorem tw12339353817043852740:True:=⟨⟩
theorem tw1592397996493150544:True:=⟨⟩
theorem tw9639244900279863879:True:=⟨⟩
theorem tw6952496473908548672:True:=⟨⟩
theorem tw16816219600383957446:True:=⟨⟩
theorem tw2779036206719831045:True:=⟨⟩
theorem tw9758778503103813309:True:=⟨⟩
theorem tw2847935569698628586:True:=⟨⟩
theorem tw5320946062646444449:True:=⟨⟩
theorem tw15129440966191781563:True:=⟨⟩
theorem tw9539983897136359920:True:=⟨⟩
theorem tw13481285816855539486:True:=⟨⟩
theorem tw5869233364472732500:True:=⟨⟩
theorem tw10796646478631951468:True:=⟨⟩
theorem tw16117870723067807869:True:=⟨⟩
theorem tw12654569826077584990:True:=⟨⟩
theorem tw12748124982185262833:True:=⟨⟩
theorem tw2606551073590436216:True:=⟨⟩
theorem tw9337835282983668474:True:=⟨⟩
theorem tw4230601989902501146:True:=⟨⟩
theorem tw8418664336597179635:True:=⟨⟩
theorem tw11758253944873871498:True:=⟨⟩
theorem tw1462744515853849274:True:=⟨⟩
theorem tw12332629532169011376:True:=⟨⟩
theorem tw11413222869433133374:True:=⟨⟩
theorem tw5865613005417269163:True:=⟨⟩
theorem tw9463111272130541289:True:=⟨⟩
theorem tw12567017712042778888:True:=⟨⟩
theorem tw9319887485389470291:True:=⟨⟩
theorem tw4354922759017705069:True:=⟨⟩
theorem tw13286946455160472426:True:=⟨⟩
theorem tw17904527221797429060:True:=⟨⟩
theorem tw5500838896157176298:True:=⟨⟩
theorem tw14484293218811599774:True:=⟨⟩
theorem tw13076883583699180049:True:=⟨⟩
theorem tw15596152797957950164:True:=⟨⟩
theorem tw13856406547218432709:True:=⟨⟩
theorem tw371338983513418777:True:=⟨⟩
theorem tw8102315897369402147:True:=⟨⟩
theorem tw649720166821967450:True:=⟨⟩
theorem tw10951217677010140918:True:=⟨⟩
theorem tw5335133939872472274:True:=⟨⟩
theorem tw9367090440540511283:True:=⟨⟩
theorem tw4295766356824589396:True:=⟨⟩
theorem tw6675969871423986226:True:=⟨⟩
theorem tw11867264836719616002:True:=⟨⟩
theorem tw14449281905981204500:True:=⟨⟩
theorem tw18404826859253919990:True:=⟨⟩
theorem tw4252351035505363937:True:=⟨⟩
theorem tw252005237931233644:True:=⟨⟩
theorem tw13069129804694910384:True:=⟨⟩
theorem tw14349292765364498048:True:=⟨⟩
theorem tw17606558970727278200:True:=⟨⟩
theorem tw17272606493622930138:True:=⟨⟩
theorem tw6481471448448148281:True:=⟨⟩
theorem tw17649484715023955853:True:=⟨⟩
theorem tw1632001761471809647:True:=⟨⟩
theorem tw14593033893827460362:True:=⟨⟩
theorem tw533700503553816525:True:=⟨⟩
theorem tw9172113242365643104:True:=⟨⟩
theorem tw105364893985833470:True:=⟨⟩
theorem tw7691875621689277921:True:=⟨⟩
theorem tw12780015572601403759:True:=⟨⟩
theorem tw8222556603643735666:True:=⟨⟩
theorem tw1238190682300488766:True:=⟨⟩
theorem tw12077327092323621578:True:=⟨⟩
theorem tw15075109082439252232:True:=⟨⟩
theorem tw11577514045452206078:True:=⟨⟩
theorem tw13158251682648743581:True:=⟨⟩
theorem tw17955234131247975907:True:=⟨⟩
theorem tw14666796467576618793:True:=⟨⟩
theorem tw10523561465865095438:True:=⟨⟩
theorem tw10934093909680853265:True:=⟨⟩
theorem tw12954099698556521955:True:=⟨⟩
theorem tw11194936292066101470:True:=⟨⟩
theorem tw4005118106018353261:True:=⟨⟩
theorem tw9379400878564241116:True:=⟨⟩
theorem tw16305170715004932326:True:=⟨⟩
theorem tw8682856460287996321:True:=⟨⟩
theorem tw149933518424900434:True:=⟨⟩
theorem tw3847208940896011852:True:=⟨⟩
theorem tw17709229508662543292:True:=⟨⟩
theorem tw11821853575251576100:True:=⟨⟩
theorem tw8590360524557175203:True:=⟨⟩
theorem tw10163906462638998431:True:=⟨⟩
theorem tw1120284994970422003:True:=⟨⟩
theorem tw9973592808462061207:True:=⟨⟩
theorem tw8344932973615958932:True:=⟨⟩
theorem tw685002556296198102:True:=⟨⟩
theorem tw62280443643000135:True:=⟨⟩
theorem tw3489294104845597306:True:=⟨⟩
theorem tw10207010499848476179:True:=⟨⟩
theorem tw6994060939613748467:True:=⟨⟩
theorem tw2952962897012445787:True:=⟨⟩
theorem tw12112305721038307446:True:=⟨⟩
theorem tw3006015709923628963:True:=⟨⟩
theorem tw2180020322077093678:True:=⟨⟩
theorem tw4532323228715850031:True:=⟨⟩
theorem tw12321677058661185540:True:=⟨⟩
theorem tw6614981123109300526:True:=⟨⟩
theorem tw14598184826371986526:True:=⟨⟩
theorem tw1407877736897407430:True:=⟨⟩
theorem tw17541254200449218715:True:=⟨⟩
theorem tw1821336023342920519:True:=⟨⟩
theorem tw16230442444690524120:True:=⟨⟩
theorem tw1233806455030062408:True:=⟨⟩
theorem tw13207930055674869654:True:=⟨⟩
theorem tw9993287838978416277:True:=⟨⟩
theorem tw8977930878880713195:True:=⟨⟩
theorem tw16309102333217590949:True:=⟨⟩
theorem tw4663548560466053803:True:=⟨⟩
theorem tw7259165662444817135:True:=⟨⟩
theorem tw17547460043849533791:True:=⟨⟩
theorem tw11986169522396841137:True:=⟨⟩
theorem tw7201707333288139045:True:=⟨⟩
theorem tw4531110609692788547:True:=⟨⟩
theorem tw5158944595455104690:True:=⟨⟩
theorem tw102921677715311124:True:=⟨⟩
theorem tw3247488565900075974:True:=⟨⟩
theorem tw17412365418068308975:True:=⟨⟩
theorem tw9968333003530400219:True:=⟨⟩
theorem tw6676354991154065478:True:=⟨⟩
theorem tw16579493335070142445:True:=⟨⟩
theorem tw4715310546167374121:True:=⟨⟩
theorem tw3898186000179919114:True:=⟨⟩
theorem tw10366042723011215545:True:=⟨⟩
theorem tw16614541458868819680:True:=⟨⟩
theorem tw4490819629770370737:True:=⟨⟩
theorem tw8364900499389184798:True:=⟨⟩
theorem tw12865090673826883831:True:=⟨⟩
theorem tw3286904187215503746:True:=⟨⟩
theorem tw6628931192586101408:True:=⟨⟩
theorem tw5796847578979808741:True:=⟨⟩
theorem tw11511585130230989205:True:=⟨⟩
theorem tw15572285847051431646:True:=⟨⟩
theorem tw2213388856306524747:True:=⟨⟩
theorem tw11022958068846283586:True:=⟨⟩
theorem tw15816479495810221518:True:=⟨⟩
theorem tw17258931772013669776:True:=⟨⟩
theorem tw13920152382055323394:True:=⟨⟩
theorem tw6832802373665686194:True:=⟨⟩
theorem tw17483398369527519833:True:=⟨⟩
theorem tw12662075771311640601:True:=⟨⟩
theorem tw16932263499581444369:True:=⟨⟩
theorem tw3163143856321008846:True:=⟨⟩
theorem tw16446144283532593069:True:=⟨⟩
theorem tw512829562813005449:True:=⟨⟩
theorem tw9166994461091459058:True:=⟨⟩
theorem tw4907450665802501450:True:=⟨⟩
theorem tw12743984407334655174:True:=⟨⟩
theorem tw9969788831175218689:True:=⟨⟩
theorem tw918305492064164435:True:=⟨⟩
theorem tw2308054680828728175:True:=⟨⟩
theorem tw414106190509297659:True:=⟨⟩
theorem tw12510040271781031850:True:=⟨⟩
theorem tw11697827607023644004:True:=⟨⟩
theorem tw14500773749604206590:True:=⟨⟩
theorem tw12352555992746778197:True:=⟨⟩
theorem tw4411975945550772931:True:=⟨⟩
theorem tw11954453018339829531:True:=⟨⟩
theorem tw15097141458646468589:True:=⟨⟩
theorem tw14228699402801951365:True:=⟨⟩
theorem tw3893095398968426325:True:=⟨⟩
theorem tw1644635036714280661:True:=⟨⟩
theorem tw10814452547690304402:True:=⟨⟩
theorem tw9103494600966467866:True:=⟨⟩
theorem tw6147985917334826584:True:=⟨⟩
theorem tw2754913416336539334:True:=⟨⟩
theorem tw6578847160203978526:True:=⟨⟩
theorem tw1286033312941801753:True:=⟨⟩
theorem tw968337660171003154:True:=⟨⟩
theorem tw14524038382857495060:True:=⟨⟩
theorem tw681546473577578496:True:=⟨⟩
theorem tw131888969562996723:True:=⟨⟩
theorem tw8688184926409658805:True:=⟨⟩
theorem tw9071857776260630372:True:=⟨⟩
theorem tw5724517127132796739:True:=⟨⟩
theorem tw9819944214522745319:True:=⟨⟩
theorem tw3007797279793818563:True:=⟨⟩
theorem tw3993884720571820204:True:=⟨⟩
theorem tw3228513754420890860:True:=⟨⟩
theorem tw17016965382672451765:True:=⟨⟩
theorem tw2901105408638697287:True:=⟨⟩
theorem tw3843040088921324308:True:=⟨⟩
theorem tw13291497722140325028:True:=⟨⟩
theorem tw15524114775077593511:True:=⟨⟩
theorem tw7366254975554003121:True:=⟨⟩
theorem tw8951286843246768578:True:=⟨⟩
theorem tw4417691422721196278:True:=⟨⟩
end PySem.W.Fast
end
set_option maxRecDepth 100000 in
set_option maxHeartbeats 0 in
theorem PySem.Challenge.cw_copymeet_k71_taken_back_or_not_holds : PySem.Challenge.rw_copymeet_k71_taken_back_or_not.Holds := by
 w_on; o_law; k_head; (case hw=>w_witness2)
 k_fill
 refine K71.walk (l:=PySem.Challenge.rw_copymeet_k71_taken_back_or_not) rfl rfl (fun w h Y=>PySem.W.kIn_of Y) ?F
 case F=>
  intro w mg fa h KX G hmg
  have hbn:∀ x∈K71.bsL,mg x=none:=fun x hx=>by
   iterate 10 (rcases List.mem_cons.mp hx with rfl | hx; · exact PySem.W.mg_none_of KX G (by k_is))
   cases hx
  refine' K71.all_mk KX G hmg hbn ?h0 ?h1 ?h2 ?h3 ?h4 ?h5 ?h6 ?h7 ?h8 ?h9 ?h10 ?h11 ?h12 ?h13 ?h14 ?h15 ?h16
  (case h0=>repeat' first | exact trivial | refine ⟨⟨_,by k_is,_,_,_,_,_,_,_,_,_,by k_is,by k_is,by k_is⟩,?_⟩)
  (case h1=>exact ⟨by k_is,by k_is,by k_is,by k_is,by k_is,by k_is,by k_is,by k_is,by k_is,by k_is,by k_is,by k_is,by k_is,by k_is,by k_is,by k_is,by k_is,trivial⟩)
  (case h2=>repeat' first | exact trivial | refine ⟨⟨_,by k_is,by k_is,_,_,_,_,_,_,_,_,_,by k_is,by k_is,by k_is⟩,?_⟩)
  (case h3=>exact ⟨by k_is,by k_is,by k_is,by k_is,by k_is,by k_is,by k_is,by k_is,by k_is,by k_is,by k_is,by k_is,by k_is,by k_is,by k_is,by k_is,by k_is,trivial⟩)
  (case h4=>repeat' first | exact trivial | refine ⟨⟨_,by k_is,by k_is,_,_,_,_,_,_,_,_,_,by k_is,by k_is,by k_is⟩,?_⟩)
  (case h5=>exact ⟨by k_is,by k_is,by k_is,by k_is,by k_is,by k_is,by k_is,by k_is,by k_is,by k_is,by k_is,by k_is,by k_is,by k_is,by k_is,by k_is,by k_is,trivial⟩)
  (case h6=>repeat' first | exact trivial | refine ⟨⟨_,by k_is,by k_is,_,_,_,_,_,_,_,_,_,by k_is,by k_is,by k_is⟩,?_⟩)
  (case h7=>exact ⟨by k_is,by k_is,by k_is,by k_is,by k_is,by k_is,by k_is,by k_is,by k_is,by k_is,by k_is,by k_is,by k_is,by k_is,by k_is,by k_is,by k_is,trivial⟩)
  (case h8=>repeat' first | exact trivial | refine ⟨⟨_,by k_is,by k_is,_,_,_,_,_,_,_,_,_,by k_is,by k_is,by k_is⟩,?_⟩)
  (case h9=>k_is)
  (case h10=>k_is)
  (case h13=>k_is)
  (case h14=>k_is)
  (case h11=>exact ⟨rfl,⟨_,rfl⟩,⟨_,rfl⟩,rfl,⟨_,rfl⟩,⟨_,rfl⟩,rfl,⟨_,rfl⟩,⟨_,rfl⟩,rfl,⟨_,rfl⟩,⟨_,rfl⟩,rfl,⟨_,rfl⟩,⟨_,rfl⟩,rfl,⟨_,rfl⟩,⟨_,rfl⟩,rfl,⟨_,rfl⟩,⟨_,rfl⟩,rfl,⟨_,rfl⟩,⟨_,rfl⟩,trivial⟩)
  (case h12=>decide +kernel)
  (case h15=>exact (.cons ⟨_,rfl⟩ (.cons ⟨_,rfl⟩ .nil)))
  (case h16=>decide +kernel)
